"""What one line of calls holds: targets, groups and layers."""


class Target:
    """The labels that a target depends on, and the specs that it's shown to."""

    def __init__(self, dependencies, specs):
        self.dependencies = dependencies
        self.specs = specs


class Graph:
    """Targets by their labels, specs of groups by the groups' names, and the specs of the layers."""

    def __init__(self):
        self.targets = {}
        self.groups = {}
        self.layers = []
