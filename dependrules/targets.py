"""The calls on one object, and their answers."""

from dependrules.additions import first_broken
from dependrules.breaches import all_breaches
from dependrules.breaches import layer_of
from dependrules.breaches import sees
from dependrules.circles import least_circle
from dependrules.graph import Graph
from dependrules.graph import Target
from dependrules.labels import is_label
from dependrules.labels import package_of
from dependrules.refusals import ACCEPTED
from dependrules.refusals import LABEL
from dependrules.refusals import group_refusal
from dependrules.refusals import known_target_refusal
from dependrules.refusals import may_refusal
from dependrules.refusals import order_refusal
from dependrules.refusals import plain_specs_refusal
from dependrules.refusals import sees_refusal
from dependrules.refusals import target_refusal
from dependrules.resting import order_of
from dependrules.resting import resting_on
from dependrules.texts import lines_of
from dependrules.texts import text_of
from dependrules.texts import texts_of
from dependrules.wanted import idle_specs
from dependrules.wanted import wanted_packages

BREACH_WORDS = {1: "missing", 2: "hidden", 3: "layer"}
MOST_BREACH_LINES = 16
CIRCLE_TOLD = 4


def answer_target(graph, rows):
    label = rows[0]
    dependencies = texts_of(rows[1])
    specs = texts_of(rows[2])
    refusal = target_refusal(graph, label, dependencies, specs)
    if refusal != ACCEPTED:
        return [refusal]
    is_new = label not in graph.targets
    graph.targets[label] = Target(dependencies, specs)
    return [1 if is_new else 0]


def answer_remove(graph, rows):
    label = rows[0]
    refusal = known_target_refusal(graph, label)
    if refusal != ACCEPTED:
        return [refusal]
    graph.targets.pop(label)
    return [0]


def answer_group(graph, rows):
    name = rows[0]
    specs = texts_of(rows[1])
    refusal = group_refusal(graph, name, specs)
    if refusal != ACCEPTED:
        return [refusal]
    is_new = name not in graph.groups
    graph.groups[name] = specs
    return [1 if is_new else 0]


def answer_layers(graph, rows):
    specs = texts_of(rows[0])
    refusal = plain_specs_refusal(specs)
    if refusal != ACCEPTED:
        return [refusal]
    graph.layers = specs
    return [len(specs)]


def with_length(text):
    return [len(text)] + list(text)


def answer_check(graph, rows):
    found = all_breaches(graph)
    if len(found) > 0:
        first = found[0]
        return [1, first[2]] + with_length(first[0]) + with_length(first[1])
    circle = least_circle(graph.targets)
    if len(circle) > 0:
        return [1, CIRCLE_TOLD] + with_length(circle[0])
    return [0]


def breach_line(breach):
    return breach[0] + text_of(" -> ") + breach[1] + text_of(": ") + text_of(BREACH_WORDS[breach[2]])


def answer_breaches(graph, rows):
    found = all_breaches(graph)
    return [len(found)] + lines_of([breach_line(breach) for breach in found[:MOST_BREACH_LINES]])


def counted_lines(texts):
    return [len(texts)] + lines_of(texts)


def answer_circle(graph, rows):
    return counted_lines(least_circle(graph.targets))


def answer_order(graph, rows):
    goals = texts_of(rows[0])
    refusal = order_refusal(graph, goals)
    if refusal != ACCEPTED:
        return [refusal]
    return counted_lines(order_of(graph, goals))


def answer_may(graph, rows):
    refusal = may_refusal(graph, rows[0], rows[1])
    if refusal != ACCEPTED:
        return [refusal]
    return [first_broken(graph, rows[0], rows[1])]


def answer_sees(graph, rows):
    refusal = sees_refusal(graph, rows[0], rows[1])
    if refusal != ACCEPTED:
        return [refusal]
    return [1 if sees(graph, rows[0], rows[1]) else 0]


def answer_layer(graph, rows):
    label = rows[0]
    if not is_label(label):
        return [LABEL]
    return [layer_of(graph, package_of(label))]


def lines_about(graph, label, tell):
    """What tell finds about the target of this label, in lines."""
    refusal = known_target_refusal(graph, label)
    if refusal != ACCEPTED:
        return [refusal]
    return counted_lines(tell(graph, label))


def answer_wanted(graph, rows):
    return lines_about(graph, rows[0], wanted_packages)


def answer_idle(graph, rows):
    return lines_about(graph, rows[0], idle_specs)


def answer_above(graph, rows):
    return lines_about(graph, rows[0], resting_on)


# Each call at the place of its number, with how many rows it has.
CALLS = (
    (answer_target, 3),
    (answer_remove, 1),
    (answer_group, 2),
    (answer_layers, 1),
    (answer_check, 0),
    (answer_breaches, 0),
    (answer_circle, 0),
    (answer_order, 1),
    (answer_may, 2),
    (answer_sees, 2),
    (answer_layer, 1),
    (answer_wanted, 1),
    (answer_idle, 1),
    (answer_above, 1),
)


def rows_from(calls, start, how_many):
    """The rows that stand in calls from start on."""
    rows = []
    place = start
    while len(rows) < how_many:
        end = place + 1 + calls[place]
        rows.append(tuple(calls[place + 1:end]))
        place = end
    return rows


def answers(calls):
    """For each call in the list how many numbers are answered, and these."""
    graph = Graph()
    answered = []
    place = 0
    while place < len(calls):
        call = CALLS[calls[place]]
        rows = rows_from(calls, place + 1, call[1])
        answer = call[0](graph, rows)
        answered.append(len(answer))
        answered.extend(answer)
        place += 1 + sum([1 + len(row) for row in rows])
    return answered
