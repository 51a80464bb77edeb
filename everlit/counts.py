"""The least counts that meet all demands, and cases that show that lesser ones do not."""

from everlit.demands import demands, is_met, ways_of
from everlit.errors import TooMany

MOST_HOPS = 6


def least_counts(first, goal):
    """The least sum of counts that meet all demands, and any such counts."""
    counts = counts_for(demands(first, goal))
    return (sum(list(counts.values())), {name: counts.get(name, 0) for name in first.signals})


def counts_for(asked):
    """Any counts with the least sum that meet a list of demands; raises TooMany if it is too great."""
    for total in range(MOST_HOPS + 1):
        counts = counts_within(asked, {}, total)
        if counts is not None:
            return counts
    raise TooMany(MOST_HOPS)


def counts_within(asked, counts, left):
    """Counts that meet a list of demands with at most so many hops more, or None."""
    waiting = [demand for demand in asked if not is_met(demand, counts)]
    if not waiting:
        return counts
    # The last of the demands have the fewest ways.
    for name, many in ways_of(waiting[-1]):
        more = many - counts.get(name, 0)
        if more <= left:
            found = counts_within(waiting, {**counts, name: many}, left - more)
            if found is not None:
                return found
    return None


def cases(first, goal):
    """Any cases that show that the least sum of counts is no lesser one."""
    asked = demands(first, goal)
    total = sum(list(counts_for(asked).values()))
    return cases_from(asked, {}, total)


def cases_from(asked, counts, total):
    """Cases that show that no counts from these on with a lesser sum than the total meet all demands."""
    if sum(list(counts.values())) >= total:
        return ("sum",)
    # Each way to meet an unmet demand adds a hop, so there are no more cases one within another than hops.
    waiting = [demand for demand in asked if not is_met(demand, counts)]
    papers = [cases_from(waiting, {**counts, name: many}, total) for name, many in ways_of(waiting[-1])]
    return ("case", waiting[-1], tuple(papers))
