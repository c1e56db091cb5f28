"""Which packages a target must be shown to, and which of its specs show it in vain."""

from dependrules.labels import package_of
from dependrules.specs import spec_admits


def wanted_packages(graph, label):
    """The packages of all targets that depend on the target, but for its own, in order."""
    own = package_of(label)
    packages = [package_of(other) for other in graph.targets if label in graph.targets[other].dependencies]
    return [package for package in sorted(set(packages)) if package != own]


def admits_one_of(spec, packages, groups):
    return any([spec_admits(spec, package, groups) for package in packages])


def idle_specs(graph, label):
    """The target's specs that admit no wanted package, in their order."""
    packages = wanted_packages(graph, label)
    return [spec for spec in graph.targets[label].specs if not admits_one_of(spec, packages, graph.groups)]
