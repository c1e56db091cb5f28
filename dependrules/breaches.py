"""Who sees whom, which layer a package has, and which dependencies are breaches."""

from dependrules.labels import package_of
from dependrules.specs import plain_spec_admits
from dependrules.specs import spec_admits

MISSING = 1
HIDDEN = 2
LAYER = 3

NO_LAYER = 8


def sees(graph, a, b):
    """Whether the target a sees the target b; b must be there."""
    package = package_of(a)
    if package == package_of(b):
        return True
    return any([spec_admits(spec, package, graph.groups) for spec in graph.targets[b].specs])


def layer_of(graph, package):
    for number, spec in enumerate(graph.layers):
        if plain_spec_admits(spec, package):
            return number
    return NO_LAYER


def goes_up(graph, a, b):
    """Whether a dependency of a on b would lead to a higher layer."""
    lower = layer_of(graph, package_of(a))
    upper = layer_of(graph, package_of(b))
    return lower != NO_LAYER and upper != NO_LAYER and upper > lower


def breach_numbers(graph, a, b):
    """The numbers of the breaches that the dependency of a on b is, in order."""
    numbers = []
    if b not in graph.targets:
        numbers.append(MISSING)
    elif not sees(graph, a, b):
        numbers.append(HIDDEN)
    if goes_up(graph, a, b):
        numbers.append(LAYER)
    return numbers


def all_breaches(graph):
    """All breaches in order, each as a's label, b's label and its number."""
    found = []
    for a in sorted(graph.targets):
        for b in sorted(graph.targets[a].dependencies):
            for number in breach_numbers(graph, a, b):
                found.append((a, b, number))
    return found
