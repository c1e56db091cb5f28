"""What targets rest on, what rests on them, and the order that follows from it."""


def rested_on(graph, labels):
    """The labels of all targets on which the targets of these labels rest, as the keys of a dict.

    One of these labels is among them only if a target rests on it, so that circles can be told.
    """
    found = {}
    waiting = list(labels)
    while len(waiting) > 0:
        label = waiting.pop()
        for dependency in graph.targets[label].dependencies:
            if dependency in graph.targets and dependency not in found:
                found[dependency] = True
                waiting.append(dependency)
    return found


def rests_on(graph, a, b):
    return b in rested_on(graph, [a])


def resting_on(graph, label):
    """The labels of the other targets that rest on the target, in order."""
    return [other for other in sorted(graph.targets) if other != label and rests_on(graph, other, label)]


def goals_and_below(graph, goals):
    """The labels of the goals and of all targets on which they rest, in order, each once."""
    found = rested_on(graph, goals)
    for goal in goals:
        found[goal] = True
    return sorted(found)


def all_among(labels, known):
    return all([label in known for label in labels])


def order_of(graph, goals):
    """The goals and all on which they rest, each behind its dependencies, ever the smallest label that can be next.

    There must be no circle among them and no dependency without a target, else none could be next.
    """
    waiting = goals_and_below(graph, goals)
    told = {}
    while len(waiting) > 0:
        ready = [label for label in waiting if all_among(graph.targets[label].dependencies, told)]
        told[ready[0]] = True
        waiting.remove(ready[0])
    return list(told)
