"""Chains of sliders and gaps: how often the sliders of a chain are closed when none can be closed any more.

A chain has sizes, the free teeth of its gaps, and limits, one for each slider between two neighbouring gaps. Closing a
slider takes a tooth from both gaps. A slider is settled if its limit is reached or if one of its gaps is used up. Where
a chain begins or ends, the gap need not be used up, or it must be.

Sets of totals are written as integers: bit n is set if the total n is possible. A layer stands between the gaps of a
chain. It is a tuple of two dicts, from how often the slider there is closed to the totals of the sliders so far: one
for sliders that are settled, and one for those that wait until the next gap is used up.
"""

from zipslack.places import all_halves


def sliders_by_gap(cloth):
    """For each gap that is beside a slider, the list of these sliders, twice the same if it is at both its feet."""
    beside = {}
    for number, end in all_halves(cloth):
        for gap in cloth.gaps_by_slider[number][end]:
            beside[gap] = beside.get(gap, []) + [(number, end)]
    return beside


def other_slider(beside, gap, slider):
    """The other slider that is beside a gap, or None."""
    others = [other for other in beside[gap] if other != slider]
    return others[0] if others else None


def find_chain(cloth, beside, slider, gap):
    """The sliders and the gaps from this gap on, through this slider, to an end or back to this gap."""
    sliders, numbers = [], [gap]
    while slider is not None and slider not in sliders:
        first, second = cloth.gaps_by_slider[slider[0]][slider[1]]
        gap = second if gap == first else first
        sliders.append(slider)
        numbers.append(gap)
        slider = other_slider(beside, gap, slider)
    return sliders, numbers


def find_chains(cloth):
    """All chains of a cloth. One whose first gap is also its last one is a cycle."""
    beside = sliders_by_gap(cloth)
    halves = [(slider, cloth.gaps_by_slider[slider[0]][slider[1]]) for slider in all_halves(cloth)]
    ends = [(slider, gap) for slider, gaps in halves for gap in gaps if len(beside[gap]) == 1]
    chains = []
    seen = set()
    # What is not reached from an end is part of a cycle, which may begin anywhere.
    for slider, gap in ends + [(slider, gaps[0]) for slider, gaps in halves]:
        if slider not in seen:
            chain = find_chain(cloth, beside, slider, gap)
            chains.append(chain)
            for other in chain[0]:
                seen.add(other)
    return chains


def first_layer(used_up):
    """The layer before the first gap, as if a slider that is settled or waits stood there."""
    return ({}, {0: 1}) if used_up else ({0: 1}, {})


def next_layer(layer, size, limit):
    """The layer behind a gap of this size, for a slider with this limit."""
    settled, waiting = layer
    settled_next, waiting_next = {}, {}
    most = min(size, limit)
    # The totals with which the gap is not used up. They grow as the count falls.
    spare = 0
    for before in range(size - most):
        spare |= settled.get(before, 0)
    for count in range(most, -1, -1):
        used_up = settled.get(size - count, 0) | waiting.get(size - count, 0)
        if count == limit:
            settled_next[count] = (used_up | spare) << count
        else:
            settled_next[count] = used_up << count
            waiting_next[count] = spare << count
        spare |= settled.get(size - count, 0)
    return settled_next, waiting_next


def find_layers(sizes, limits, used_up):
    """All layers of a chain, from before its first gap to before its last one."""
    layers = [first_layer(used_up)]
    for size, limit in zip(sizes, limits):
        layers.append(next_layer(layers[-1], size, limit))
    return layers


def last_states(layer, size, used_up):
    """The entries of the last layer that the last gap settles, as tuples of settled, count and totals."""
    settled, waiting = layer
    found = [(True, count, totals) for count, totals in settled.items()
             if count == size or count < size and not used_up]
    return found + [(False, count, totals) for count, totals in waiting.items() if count == size]


def chain_totals(sizes, limits, first_used_up, last_used_up):
    """The possible totals of a chain in which the first or the last gap must be used up, or need not be."""
    totals = 0
    for settled, count, found in last_states(find_layers(sizes, limits, first_used_up)[-1], sizes[-1], last_used_up):
        totals |= found
    return totals


def chain_counts(sizes, limits, first_used_up, last_used_up, total):
    """How often each slider of a chain is closed for a total that is possible."""
    layers = find_layers(sizes, limits, first_used_up)
    states = last_states(layers.pop(), sizes[-1], last_used_up)
    counts = []
    for size, limit in list(zip(sizes, limits))[::-1]:
        settled, count = picked(states, total)
        counts.append(count)
        total -= count
        states = states_before(layers.pop(), size, limit, settled, count)
    return counts[::-1]


def picked(states, total):
    """The first entry with this total, as a tuple of settled and count."""
    return [(settled, count) for settled, count, totals in states if has_total(totals, total)][0]


def states_before(layer, size, limit, settled, count):
    """The entries of a layer that lead to a settled or a waiting slider with this count behind the next gap."""
    settled_before, waiting_before = layer
    left = size - count
    found = []
    # A slider that waits has left some of the gap, and one that is settled has done so only at its limit.
    if not settled or count == limit:
        found = [(True, before, totals) for before, totals in settled_before.items() if before < left]
    if settled:
        found += [(kind, left, entries[left]) for kind, entries in ((True, settled_before), (False, waiting_before))
                  if left in entries]
    return found


def has_total(totals, total):
    return 0 <= total < totals.bit_length() and (totals >> total) & 1 == 1


def all_totals(totals):
    """The totals of a set, in ascending order."""
    return [total for total in range(totals.bit_length()) if has_total(totals, total)]
