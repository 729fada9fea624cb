"""The actions of a workspace on another picture of a cloth: each row as a ribbon of feet and the gaps between them.

A ribbon is a dict with `sort`, `teeth`, `feet`, `gaps` and `start`, the low position of the first foot. A line has a
gap before its first foot, too, a ring has one behind each foot only, and a row without feet has one gap.
"""

RINGS = 2
ZIPS = 8
INTEGERS = {"close": 2, "open": 2, "slip": 3, "set_minimum": 2, "join_ends": 1, "cut": 3, "remove_zip": 1}


def ribbon_of(row, state):
    sort, teeth, feet = row
    if not feet:
        return {"sort": sort, "teeth": teeth, "feet": [], "gaps": [teeth], "start": 0}
    lows = [state[number][side] for number, side in feet]
    highs = [low + state[number][2] for low, (number, side) in zip(lows, feet)]
    if sort == "line":
        gaps = [low - high for low, high in zip(lows + [teeth], [0] + highs)]
    else:
        gaps = [low - high for low, high in zip(lows[1:] + [lows[0] + teeth], highs)]
    return {"sort": sort, "teeth": teeth, "feet": list(feet), "gaps": gaps, "start": lows[0]}


def ribbons_of(cloth, state):
    return [ribbon_of(row, state) for row in cloth.rows()]


def flattened(ribbons, counts):
    """The rows and the state of some ribbons, whose zips have these numbers of pairs."""
    lows = {}
    for ribbon in ribbons:
        at = ribbon["gaps"][0] if ribbon["sort"] == "line" else ribbon["start"] % ribbon["teeth"]
        for foot, gap in zip(ribbon["feet"], ribbon["gaps"][ribbon["sort"] == "line":]):
            lows[foot] = at
            at += counts[foot[0]] + gap
    rows = tuple((ribbon["sort"], ribbon["teeth"], tuple(ribbon["feet"])) for ribbon in ribbons)
    return rows, tuple((lows[(number, 0)], lows[(number, 1)], count) for number, count in enumerate(counts))


def join_ends(ribbon):
    gaps = ribbon["gaps"]
    if ribbon["feet"]:
        ribbon.update(start=gaps[0], gaps=gaps[1:-1] + [gaps[-1] + gaps[0]])
    ribbon["sort"] = "ring"


def cut(ribbon, at, teeth_before):
    feet, gaps = ribbon["feet"], ribbon["gaps"]
    ribbon["sort"] = "line"
    if feet:
        ribbon["feet"] = feet[at + 1:] + feet[:at + 1]
        ribbon["gaps"] = [gaps[at] - teeth_before] + gaps[at + 1:] + gaps[:at] + [teeth_before]


def place(ribbon, at, teeth_before, foot):
    """Puts a foot of an open zip into a gap."""
    feet, gaps = ribbon["feet"], ribbon["gaps"]
    if ribbon["sort"] == "ring" and not feet:
        ribbon.update(feet=[foot], start=teeth_before)
        return
    feet.insert(at + (ribbon["sort"] == "ring"), foot)
    gaps[at:at + 1] = [teeth_before, gaps[at] - teeth_before]


def add_feet(ribbons, number, spots):
    """Puts two feet into gaps, which are those before both of them are there."""
    (row0, gap0, teeth0), (row1, gap1, teeth1) = spots
    empty_ring = ribbons[row0]["sort"] == "ring" and not ribbons[row0]["feet"]
    if (row0, gap0) != (row1, gap1):
        # From the last gap to the first, so that the numbers of the gaps stay.
        for row, gap, teeth, side in sorted([(*spots[0], 0), (*spots[1], 1)], reverse=True):
            place(ribbons[row], gap, teeth, (number, side))
    elif teeth0 <= teeth1:
        place(ribbons[row0], gap0, teeth0, (number, 0))
        place(ribbons[row0], gap0 + (not empty_ring), teeth1 - teeth0, (number, 1))
    else:
        place(ribbons[row0], gap0, teeth1, (number, 1))
        place(ribbons[row0], gap0 + (not empty_ring), teeth0 - teeth1, (number, 0))


def take(ribbon, number):
    """Takes the feet of an open zip away, and gives later zips their new numbers."""
    for side in (0, 1):
        feet, gaps = ribbon["feet"], ribbon["gaps"]
        if (number, side) in feet:
            at = feet.index((number, side))
            feet.remove((number, side))
            if ribbon["sort"] == "line":
                gaps[at:at + 2] = [gaps[at] + gaps[at + 1]]
            elif feet:
                space = gaps.pop(at)
                gaps[at - 1] += space
                ribbon["start"] += space if at == 0 else 0
    ribbon["feet"] = [(other - (other > number), side) for other, side in ribbon["feet"]]


def is_action(value):
    if type(value) is not tuple or not value or type(value[0]) is not str:
        return False
    if value[0] == "add_zip":
        return len(value) == 8 and type(value[1]) is str and all(type(part) is int for part in value[2:])
    known = value[0] in INTEGERS and len(value) == 1 + INTEGERS[value[0]]
    return known and all(type(part) is int for part in value[1:])


def edited(cloth, state, edit):
    """The rows, the zips and the state after an edit, or the error that it raises as a tuple of name and field."""
    ribbons = ribbons_of(cloth, state)
    zips = list(cloth.zips())
    counts = [count for low0, low1, count in state]
    name = edit[0]
    rows = {"join_ends": edit[1:2], "cut": edit[1:2], "add_zip": edit[2:6:3]}.get(name, ())
    for row in rows:
        if not 0 <= row < len(ribbons):
            return ("UnknownRow", row)
    if name in ("set_minimum", "remove_zip") and not 0 <= edit[1] < len(zips):
        return ("UnknownZip", edit[1])
    if not is_possible(ribbons, counts, edit):
        return ("InvalidAction",)
    if name == "join_ends" and [ribbon["sort"] for ribbon in ribbons].count("ring") == RINGS:
        return ("LimitExceeded", RINGS)
    if name == "add_zip" and len(zips) == ZIPS:
        return ("LimitExceeded", ZIPS)
    perform(ribbons, zips, counts, edit)
    rows, reached = flattened(ribbons, counts)
    return rows, tuple(zips), reached


def has_spot(ribbon, gap, teeth_before):
    return 0 <= gap < len(ribbon["gaps"]) and 0 <= teeth_before <= ribbon["gaps"][gap]


def is_possible(ribbons, counts, edit):
    """Whether an edit of known rows and zips is possible, the limits of a cloth aside."""
    name = edit[0]
    if name == "set_minimum":
        return 0 <= edit[2] <= counts[edit[1]]
    if name == "remove_zip":
        return counts[edit[1]] == 0
    if name == "join_ends":
        return ribbons[edit[1]]["sort"] == "line"
    if name == "cut":
        return ribbons[edit[1]]["sort"] == "ring" and has_spot(ribbons[edit[1]], edit[2], edit[3])
    return edit[1] in ("parallel", "reversed") and all(
        has_spot(ribbons[row], gap, teeth) for row, gap, teeth in (edit[2:5], edit[5:8]))


def perform(ribbons, zips, counts, edit):
    name = edit[0]
    if name == "set_minimum":
        zips[edit[1]] = (zips[edit[1]][0], edit[2])
    elif name == "remove_zip":
        for ribbon in ribbons:
            take(ribbon, edit[1])
        del zips[edit[1]], counts[edit[1]]
    elif name == "join_ends":
        join_ends(ribbons[edit[1]])
    elif name == "cut":
        cut(ribbons[edit[1]], edit[2], edit[3])
    else:
        add_feet(ribbons, len(zips), (edit[2:5], edit[5:8]))
        zips.append((edit[1], 0))
        counts.append(0)
