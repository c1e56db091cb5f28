"""The least circle of targets."""


def least_circle_from(targets, first):
    """The least of the circles whose smallest label is first, empty if there's none.

    The paths of one length stand in their order, and each is made longer by labels in order.
    So the first path to reach a label is the least one to it, and the first one that
    closes is the least circle: a second path to the same label needn't be followed.
    """
    paths = [[first]]
    reached = {first: True}
    while len(paths) > 0:
        longer = []
        for path in paths:
            dependencies = targets[path[-1]].dependencies
            if first in dependencies:
                return path
            for label in sorted(dependencies):
                if label > first and label in targets and label not in reached:
                    reached[label] = True
                    longer.append(path + [label])
        paths = longer
    return []


def least_circle(targets):
    """The labels of the least circle from its smallest one on, empty if there's none."""
    least = []
    for first in sorted(targets):
        circle = least_circle_from(targets, first)
        if len(circle) > 0 and (len(least) == 0 or len(circle) < len(least)):
            least = circle
    return least
