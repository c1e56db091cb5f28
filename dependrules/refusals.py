"""Which calls are refused, and by which number; each function looks in the order that the document tells."""

from dependrules.labels import is_label
from dependrules.resting import all_among
from dependrules.resting import goals_and_below
from dependrules.resting import rests_on
from dependrules.specs import is_group_name
from dependrules.specs import is_plain_spec
from dependrules.specs import is_spec

ACCEPTED = 0
LABEL = -1
LIST = -2
LIMIT = -3
TWICE = -4
SPEC = -5
FULL = -6
ABSENT = -7
CIRCLE = -8
MISSING = -9
NAME = -10

MOST_DEPENDENCIES = 16
MOST_SPECS = 8
MOST_TARGETS = 64
MOST_GROUPS = 16


def target_refusal(graph, label, dependencies, specs):
    """dependencies and specs are lists of texts, or None for what isn't one."""
    if not is_label(label):
        return LABEL
    if dependencies is None or specs is None:
        return LIST
    if len(dependencies) > MOST_DEPENDENCIES or len(specs) > MOST_SPECS:
        return LIMIT
    if not all([is_label(dependency) for dependency in dependencies]):
        return LABEL
    if len(set(dependencies)) < len(dependencies):
        return TWICE
    if not all([is_spec(spec) for spec in specs]):
        return SPEC
    if label not in graph.targets and len(graph.targets) >= MOST_TARGETS:
        return FULL
    return ACCEPTED


def known_target_refusal(graph, label):
    if not is_label(label):
        return LABEL
    if label not in graph.targets:
        return ABSENT
    return ACCEPTED


def plain_specs_refusal(specs):
    """specs is a list of texts, or None for what isn't one."""
    if specs is None:
        return LIST
    if len(specs) > MOST_SPECS:
        return LIMIT
    if not all([is_plain_spec(spec) for spec in specs]):
        return SPEC
    return ACCEPTED


def group_refusal(graph, name, specs):
    if not is_group_name(name):
        return NAME
    refusal = plain_specs_refusal(specs)
    if refusal != ACCEPTED:
        return refusal
    if name not in graph.groups and len(graph.groups) >= MOST_GROUPS:
        return FULL
    return ACCEPTED


def order_refusal(graph, goals):
    """goals is a list of texts, or None for what isn't one."""
    if goals is None:
        return LIST
    if not all([is_label(goal) for goal in goals]):
        return LABEL
    if not all_among(goals, graph.targets):
        return ABSENT
    needed = goals_and_below(graph, goals)
    if not all([all_among(graph.targets[label].dependencies, graph.targets) for label in needed]):
        return MISSING
    if any([rests_on(graph, label, label) for label in needed]):
        return CIRCLE
    return ACCEPTED


def may_refusal(graph, a, b):
    if not is_label(a) or not is_label(b):
        return LABEL
    if a not in graph.targets:
        return ABSENT
    return ACCEPTED


def sees_refusal(graph, a, b):
    refusal = may_refusal(graph, a, b)
    if refusal == ACCEPTED and b not in graph.targets:
        return ABSENT
    return refusal
