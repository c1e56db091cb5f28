"""Calls of all fourteen kinds in one list, in any order, against the words of the document told once more."""

import collections
import re
import unittest

from helper import (ABSENT, FULL, IN_CIRCLE, LABEL, LIMIT, LIST, MISSING, NAME, SPEC, TWICE, first_told, lines, listed,
                    numbers_from, row, run, text)

KINDS = ["target", "remove", "group", "layers", "check", "breaches", "circle", "order", "may", "sees", "layer",
         "wanted", "idle", "above"]
WORDS = {1: "missing", 2: "hidden", 3: "layer"}

PART = re.compile(r"[a-zA-Z0-9._-]{1,32}")
GROUP_NAME = re.compile(r"[a-zA-Z0-9_-]{1,32}")


def is_path(words):
    parts = words.split("/")
    good = all(PART.fullmatch(part) and part not in (".", "..") for part in parts)
    return good and len(parts) <= 8 and len(words) <= 96


def is_label(words):
    package, colon, name = words[2:].partition(":")
    return words.startswith("//") and colon == ":" and (package == "" or is_path(package)) and is_path(name)


def plain_spec(words):
    """What a spec that isn't a group's says, or None: ("one", package) or ("within", package)."""
    if words in ("public", "//..."):
        return "within", ""
    if words.startswith("//") and words.endswith("/...") and is_path(words[2:-4]):
        return "within", words[2:-4]
    if words == "//" or words.startswith("//") and not words.endswith("/...") and is_path(words[2:]):
        return "one", words[2:]
    return None


def is_spec(words):
    return bool(plain_spec(words) or words.startswith("group:") and GROUP_NAME.fullmatch(words[6:]))


def package_of(label):
    return label[2:label.index(":")]


class Model:
    """One object, told again without regard to speed."""

    def __init__(self):
        self.targets = {}
        self.groups = {}
        self.order_of_layers = []

    def admits(self, spec, package):
        if spec.startswith("group:"):
            return any(self.admits(member, package) for member in self.groups.get(spec[6:], []))
        how, own = plain_spec(spec)
        return package == own or how == "within" and (own == "" or package.startswith(own + "/"))

    def a_sees_b(self, a, b):
        package = package_of(a)
        return package == package_of(b) or any(self.admits(spec, package) for spec in self.targets[b][1])

    def layer_or_none(self, label):
        admitting = [self.admits(spec, package_of(label)) for spec in self.order_of_layers]
        return admitting.index(True) if True in admitting else None

    def is_layer_breach(self, a, b):
        numbers = [self.layer_or_none(a), self.layer_or_none(b)]
        return None not in numbers and numbers[1] > numbers[0]

    def there(self, label):
        return [one for one in self.targets[label][0] if one in self.targets]

    def rests(self, label):
        found = set()
        more = set(self.there(label))
        while not more <= found:
            found |= more
            more = {one for below in found for one in self.there(below)}
        return found

    def all_breaches(self):
        found = []
        for a in self.targets:
            for b in self.targets[a][0]:
                if b not in self.targets:
                    found.append((a, b, 1))
                elif not self.a_sees_b(a, b):
                    found.append((a, b, 2))
                if self.is_layer_breach(a, b):
                    found.append((a, b, 3))
        return sorted(found)

    def circles(self, path):
        """All circles that begin with this path and have no smaller label than its first one."""
        for label in self.there(path[-1]):
            if label == path[0]:
                yield path
            elif label > path[0] and label not in path:
                yield from self.circles(path + [label])

    def least(self):
        found = [circle for first in self.targets for circle in self.circles([first])]
        return min(found, key=lambda circle: (len(circle), circle), default=[])

    def target(self, label, dependencies, specs):
        refusals = [
            (LABEL, lambda: not is_label(label)),
            (LIST, lambda: None in (dependencies, specs)),
            (LIMIT, lambda: len(dependencies) > 16 or len(specs) > 8),
            (LABEL, lambda: not all(map(is_label, dependencies))),
            (TWICE, lambda: len(dependencies) != len(set(dependencies))),
            (SPEC, lambda: not all(map(is_spec, specs))),
            (FULL, lambda: label not in self.targets and len(self.targets) == 64)]
        for number, holds in refusals:
            if holds():
                return [number]
        new = label not in self.targets
        self.targets[label] = (dependencies, specs)
        return [int(new)]

    def known(self, *labels):
        if not all(map(is_label, labels)):
            return LABEL
        return 0 if all(label in self.targets for label in labels) else ABSENT

    def remove(self, label):
        refusal = self.known(label)
        if not refusal:
            del self.targets[label]
        return [refusal]

    def plain_specs(self, specs):
        if specs is None:
            return LIST
        if len(specs) > 8:
            return LIMIT
        return 0 if all(map(plain_spec, specs)) else SPEC

    def group(self, name, specs):
        if not GROUP_NAME.fullmatch(name):
            return [NAME]
        if self.plain_specs(specs):
            return [self.plain_specs(specs)]
        if name not in self.groups and len(self.groups) == 16:
            return [FULL]
        new = name not in self.groups
        self.groups[name] = specs
        return [int(new)]

    def layers(self, specs):
        if self.plain_specs(specs):
            return [self.plain_specs(specs)]
        self.order_of_layers = specs
        return [len(specs)]

    def check(self):
        if self.all_breaches():
            a, b, number = self.all_breaches()[0]
            return first_told(number, a, b)
        least = self.least()
        return [1, 4, len(least[0])] + text(least[0]) if least else [0]

    def breaches(self):
        found = ["%s -> %s: %s" % (a, b, WORDS[number]) for a, b, number in self.all_breaches()]
        return [len(found)] + lines(*found[:16])[1:]

    def circle(self):
        return lines(*self.least())

    def order(self, goals):
        if goals is None:
            return [LIST]
        if self.known(*goals):
            return [self.known(*goals)]
        needed = set(goals).union(*[self.rests(goal) for goal in goals])
        if any(self.there(label) != self.targets[label][0] for label in needed):
            return [MISSING]
        if any(label in self.rests(label) for label in needed):
            return [IN_CIRCLE]
        told = []
        while len(told) < len(needed):
            told.append(min(label for label in needed - set(told) if set(self.targets[label][0]) <= set(told)))
        return lines(*told)

    def may(self, a, b):
        if not is_label(a) or not is_label(b):
            return [LABEL]
        if a not in self.targets:
            return [ABSENT]
        if b in self.targets[a][0]:
            return [5]
        if b not in self.targets:
            return [1]
        if b == a or a in self.rests(b):
            return [2]
        if not self.a_sees_b(a, b):
            return [3]
        return [4 if self.is_layer_breach(a, b) else 0]

    def sees(self, a, b):
        return [self.known(a, b) or int(self.a_sees_b(a, b))]

    def layer(self, label):
        if not is_label(label):
            return [LABEL]
        number = self.layer_or_none(label)
        return [8 if number is None else number]

    def wanted_packages(self, label):
        dependers = [a for a in self.targets if label in self.targets[a][0]]
        return sorted({package_of(a) for a in dependers} - {package_of(label)})

    def wanted(self, label):
        return [self.known(label)] if self.known(label) else lines(*self.wanted_packages(label))

    def idle(self, label):
        if self.known(label):
            return [self.known(label)]
        packages = self.wanted_packages(label)
        return lines(*[spec for spec in self.targets[label][1]
                       if not any(self.admits(spec, package) for package in packages)])

    def above(self, label):
        if self.known(label):
            return [self.known(label)]
        return lines(*sorted(a for a in self.targets if a != label and label in self.rests(a)))


class Chance:
    """Calls that are ever the same for the same seed."""

    PACKAGES = ["", "a", "a/b", "ab", "..."]
    LABELS = ["//%s:%s" % (package, name) for package in PACKAGES for name in ("x", "y")]
    PLAIN = ["public", "//...", "//", "//a", "//a/...", "//a/b", "//ab", "//.../..."]
    SPECS = PLAIN[2:] + ["group:g", "group:h", "group:none", "public"]
    WRONG = ["", "//a", "//a:", "//a:.", "group:", "a.b", "private", "//a/"]

    def __init__(self, seed, loose):
        self.numbers = numbers_from(seed)
        self.loose = loose

    def below(self, count):
        return next(self.numbers) % count

    def one(self, things):
        return things[self.below(len(things))] if self.below(30) else self.one(self.WRONG)

    def some(self, things, most):
        if not self.below(40):
            return None
        return [self.one(things) for count in range(self.below(most + 1))]

    def dependencies(self, label):
        """Often on greater labels only, so that there are graphs without circles too."""
        found = self.some(self.LABELS, 3)
        if found is None or not self.below(20):
            return found
        return sorted({one for one in found if self.loose or one > label}, reverse=bool(self.below(2)))

    def call(self):
        kind = KINDS[self.below(14)] if self.below(3) else "target"
        label = self.one(self.LABELS)
        if kind == "target":
            return kind, [label, self.dependencies(label), self.some(self.SPECS, 4)]
        if kind == "remove" and self.below(2):
            # Where much is removed, little rests on anything.
            return "order", [self.some(self.LABELS, 3)]
        if kind == "group":
            return kind, [self.one(["g", "h"]), self.some(self.PLAIN[2:], 2)]
        if kind == "layers":
            return kind, [self.some(self.PLAIN, 4)]
        if kind == "order":
            return kind, [self.some(self.LABELS, 2)]
        if kind in ("check", "breaches", "circle"):
            return kind, []
        return kind, [label, self.one(self.LABELS)] if kind in ("may", "sees") else [label]


def as_numbers(kind, arguments):
    numbers = [KINDS.index(kind)]
    for argument in arguments:
        if argument is None:
            numbers += row(listed(["//a:x"]) + [6] + text("//a:y"))
        elif isinstance(argument, list):
            numbers += row(listed(argument))
        else:
            numbers += row(text(argument))
    return numbers


class Whole(unittest.TestCase):
    def test_many_lists(self):
        seen = collections.Counter()
        for seed in range(400):
            chance = Chance(seed, seed % 4 == 0)
            model = Model()
            calls = [chance.call() for count in range(70)]
            told = run(*[as_numbers(*call) for call in calls])
            for place, (kind, arguments) in enumerate(calls):
                expected = getattr(model, kind)(*arguments)
                self.assertEqual(told[place], expected, (seed, calls[:place + 1]))
                seen[kind, expected[0]] += 1
        self.assert_all_was_seen(seen)

    def assert_all_was_seen(self, seen):
        """What was compared is worth little if some answer never came."""
        answers = {"target": [0, 1, LABEL, LIST, TWICE, SPEC], "remove": [0, LABEL, ABSENT],
                   "group": [0, 1, NAME, LIST, SPEC], "layers": [0, 1, 2, 3, 4, LIST, SPEC], "check": [0, 1],
                   "breaches": [0, 1, 2, 5], "circle": [0, 1, 2, 3], "may": [0, 1, 2, 3, 4, 5, LABEL, ABSENT],
                   "order": [0, 1, 2, 3, LIST, LABEL, ABSENT, MISSING, IN_CIRCLE], "sees": [0, 1, LABEL, ABSENT],
                   "layer": [0, 1, 2, 3, 8, LABEL], "wanted": [0, 1, 2, LABEL, ABSENT],
                   "idle": [0, 1, 2, 3, LABEL, ABSENT], "above": [0, 1, 2, 3, LABEL, ABSENT]}
        for kind in KINDS:
            for number in answers[kind]:
                self.assertGreater(seen[kind, number], 0, (kind, number))


if __name__ == "__main__":
    unittest.main()
