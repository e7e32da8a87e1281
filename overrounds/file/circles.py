"""Spans on a circle, which begins again behind its last place."""


def span_later(span, ticks):
    """The span (begin, end) so many ticks later."""
    return span[0] + ticks, span[1] + ticks


def do_meet(circle, one, other):
    """Whether two spans cover a common place of a circle with so many places."""
    ahead = (other[0] - one[0]) % circle
    behind = (one[0] - other[0]) % circle
    return ahead < one[1] - one[0] or behind < other[1] - other[0]


def is_longer(circle, span):
    """Whether the span covers a place of the circle twice."""
    return span[1] - span[0] > circle
