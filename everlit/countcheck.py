"""The check of cases."""

from everlit.demands import demands, ways_of

MOST_CASES = 7


def shows_counts(first, goal, total, value):
    """Whether any value is cases for a total."""
    return are_cases(demands(first, goal), {}, total, value, MOST_CASES)


def are_cases(asked, counts, total, value, left):
    """Whether any value is cases from some least counts on, at most so many one within another."""
    if not isinstance(value, tuple) or value == ():
        return False
    if value[0] == "sum":
        return len(value) == 1 and sum(list(counts.values())) >= total
    if value[0] != "case" or len(value) != 3 or left == 0:
        return False
    _, demand, papers = value
    if demand not in asked:
        return False
    ways = ways_of(demand)
    if not isinstance(papers, tuple) or len(papers) != len(ways):
        return False
    for (name, many), paper in zip(ways, papers):
        more = {**counts, name: max(many, counts.get(name, 0))}
        if not are_cases(asked, more, total, paper, left - 1):
            return False
    return True
