"""Closing sliders in an unknown order: how far each of them gets, and how far all of them get together.

Closing a slider takes a tooth from each of the two gaps beside it, or two teeth from a gap that is beside both of its
feet. So only the numbers of closings matter: sliders that are closed so often can be closed in every order.
"""

from zipslack.chains import all_totals, chain_counts, chain_totals, find_chains, has_total, other_slider, sliders_by_gap
from zipslack.errors import UnreachableCount
from zipslack.places import all_halves
from zipslack.states import require_gaps


def close_ranges(cloth, state, limits):
    """How often each slider is closed, at the least and at the most."""
    gaps = require_gaps(cloth, state)
    beside = sliders_by_gap(cloth)
    return tuple([tuple([slider_range(cloth, gaps, limits, beside, (number, end)) for end in (0, 1)])
                  for number in range(len(cloth))])


def order_for(cloth, state, limits, *, number, end, count):
    """An order in which one slider is closed so many times."""
    gaps = require_gaps(cloth, state)
    slider = (number, end)
    beside = sliders_by_gap(cloth)
    least, most = slider_range(cloth, gaps, limits, beside, slider)
    if not least <= count <= most:
        raise UnreachableCount(count)
    blockers = [other for gap, other in partners(cloth, beside, slider)
                if gaps[gap] - most_times(cloth, gaps, limits, other) <= count]
    left = {other: limits[other[0]][other[1]] for other in all_halves(cloth)}
    left[slider] = count
    order = []
    # A blocker uses up a gap of the slider, which is then closed no further even if its limit allows more.
    for other in [slider] + blockers[:1] + all_halves(cloth):
        order.extend(close_fully(cloth, gaps, left, other))
    return order


def total_range(cloth, state, limits):
    """How many closings there are in all orders, at the least and at the most."""
    gaps = require_gaps(cloth, state)
    totals = [all_totals(case_totals(chain_cases(gaps, limits, chain))) for chain in find_chains(cloth)]
    return sum([found[0] for found in totals]), sum([found[-1] for found in totals])


def order_for_total(cloth, state, limits, *, count):
    """An order with so many closings."""
    gaps = require_gaps(cloth, state)
    chains = find_chains(cloth)
    cases = [chain_cases(gaps, limits, chain) for chain in chains]
    shares = find_shares([case_totals(found) for found in cases], count)
    if shares is None:
        raise UnreachableCount(count)
    order = []
    for (sliders, numbers), found, share in zip(chains, cases, shares):
        for slider, times in zip(sliders, case_counts(found, share)):
            order.extend([slider] * times)
    return order


def partners(cloth, beside, slider):
    """The gaps beside a slider, each with the other slider that is beside it, if there is one."""
    number, end = slider
    found = [(gap, other_slider(beside, gap, slider)) for gap in cloth.gaps_by_slider[number][end]]
    return [(gap, other) for gap, other in found if other is not None]


def most_times(cloth, gaps, limits, slider):
    """How often a slider can be closed before all others."""
    number, end = slider
    return min(limits[number][end], room(cloth, gaps, slider))


def room(cloth, gaps, slider):
    """How often a slider can be closed if it has no limit."""
    number, end = slider
    first, second = cloth.gaps_by_slider[number][end]
    return gaps[first] // 2 if first == second else min(gaps[first], gaps[second])


def slider_range(cloth, gaps, limits, beside, slider):
    """How often a slider is closed at the least and at the most."""
    most = most_times(cloth, gaps, limits, slider)
    # A slider that does not reach its limit has lost one of its gaps, for the most part to the other slider there.
    lost = [gaps[gap] - most_times(cloth, gaps, limits, other) for gap, other in partners(cloth, beside, slider)]
    return min([most] + lost), most


def close_fully(cloth, gaps, left, slider):
    """Closes a slider as often as it can be closed, and returns it as often as it was closed."""
    number, end = slider
    times = min(left[slider], room(cloth, gaps, slider))
    left[slider] -= times
    for gap in cloth.gaps_by_slider[number][end]:
        gaps[gap] -= times
    return [slider] * times


def chain_cases(gaps, limits, chain):
    """The cases of a chain, each with the counts of the sliders before it and what chain_totals takes.

    A cycle is cut open at its first slider: there is a case for each count of this slider.
    """
    sliders, numbers = chain
    sizes = [gaps[number] for number in numbers]
    tops = [limits[number][end] for number, end in sliders]
    if numbers[0] != numbers[-1]:
        return [([], sizes, tops, False, False)]
    if len(sliders) == 1:
        return [([min(tops[0], sizes[0] // 2)], [0], [], False, False)]
    cases = []
    for count in range(min(tops[0], sizes[0], sizes[1]) + 1):
        left = [sizes[1] - count] + sizes[2:-1] + [sizes[0] - count]
        if count == tops[0]:
            cases.append(([count], left, tops[1:], False, False))
        else:
            # The first slider is not settled by its limit, so one of its gaps must be used up.
            cases.append(([count], left, tops[1:], True, False))
            cases.append(([count], left, tops[1:], False, True))
    return cases


def case_totals(cases):
    """The set of totals of all cases."""
    totals = 0
    for counts, sizes, tops, first_used_up, last_used_up in cases:
        totals |= chain_totals(sizes, tops, first_used_up, last_used_up) << sum(counts)
    return totals


def case_counts(cases, total):
    """How often each slider of a chain is closed for a total that one of the cases has."""
    for counts, sizes, tops, first_used_up, last_used_up in cases:
        rest = total - sum(counts)
        if has_total(chain_totals(sizes, tops, first_used_up, last_used_up), rest):
            return counts + chain_counts(sizes, tops, first_used_up, last_used_up, rest)
    return None


def find_shares(sets, count):
    """One total of each set, such that their sum is the count, or None if there are none."""
    sums = [1]
    for totals in sets:
        together = 0
        for total in all_totals(totals):
            together |= sums[-1] << total
        sums.append(together)
    if not has_total(sums.pop(), count):
        return None
    shares = []
    for totals in sets[::-1]:
        before = sums.pop()
        share = [total for total in all_totals(totals) if has_total(before, count - total)][0]
        shares.append(share)
        count -= share
    return shares[::-1]
