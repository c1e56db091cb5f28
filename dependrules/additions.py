"""What one more dependency would break."""

from dependrules.breaches import goes_up
from dependrules.breaches import sees
from dependrules.resting import rests_on

NOTHING = 0
NO_TARGET = 1
CLOSES_CIRCLE = 2
NOT_SEEN = 3
GOES_UP = 4
DEPENDS_ALREADY = 5


def first_broken(graph, a, b):
    """What a dependency of the target a on the label b would break first."""
    if b in graph.targets[a].dependencies:
        return DEPENDS_ALREADY
    if b not in graph.targets:
        return NO_TARGET
    if b == a or rests_on(graph, b, a):
        return CLOSES_CIRCLE
    if not sees(graph, a, b):
        return NOT_SEEN
    if goes_up(graph, a, b):
        return GOES_UP
    return NOTHING
