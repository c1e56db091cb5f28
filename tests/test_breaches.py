"""Point 6: breaches, and with it who sees whom."""

import unittest

from helper import BREACHES, CHECK, EXAMPLE, first_told, group, last, layers, lines, numbers_from, run, target, text

PACKAGES = ["", "a", "a/b", "ab", "a/b/c", "a.b", "...", "a/...", "a/.../b", "public", "A"]
SPECS = ["public", "//...", "//", "//a", "//a/...", "//a/b", "//a/b/...", "//ab", "//.../...", "//a/.../...",
         "//A/...", "//public", "group:g", "group:h", "group:none"]
GROUPS = {"g": ["//a/b", "//A"], "h": ["//a/b/...", "//"]}


def admitted(spec):
    """The packages that a spec admits, told one by one as the words tell it."""
    return {
        "public": PACKAGES,
        "//...": PACKAGES,
        "//": [""],
        "//a": ["a"],
        "//a/...": ["a", "a/b", "a/b/c", "a/...", "a/.../b"],
        "//a/b": ["a/b"],
        "//a/b/...": ["a/b", "a/b/c"],
        "//ab": ["ab"],
        "//.../...": ["..."],
        "//a/.../...": ["a/...", "a/.../b"],
        "//A/...": ["A"],
        "//public": ["public"],
        "group:g": ["a/b", "A"],
        "group:h": ["a/b", "a/b/c", ""],
        "group:none": [],
    }[spec]


def many(count):
    """Targets with so many breaches together, and the breaches' lines."""
    calls = []
    told = []
    for a in range(0, count, 16):
        dependencies = ["//m:%02d" % b for b in range(min(16, count - a))]
        calls.append(target("//a:%04d" % a, reversed(dependencies)))
        told += ["//a:%04d -> %s: missing" % (a, b) for b in dependencies]
    return calls, told


class Sees(unittest.TestCase):
    def test_each_spec_and_each_package(self):
        groups = [group(name, specs) for name, specs in GROUPS.items()]
        for spec in SPECS:
            for package in PACKAGES:
                a = "//%s:x" % package
                told = last(*groups, target(a, ["//own:y"]), target("//own:y", [], [spec]), BREACHES)
                self.assertEqual(told, [0] if package in admitted(spec) else lines(a + " -> //own:y: hidden"),
                                 (spec, package))

    def test_each_layer_and_each_package(self):
        for spec in [spec for spec in SPECS if not spec.startswith("group:")]:
            for package in PACKAGES:
                b = "//%s:y" % package
                calls = [layers(["//own", spec]), target("//own:x", [b]), target(b, [], ["public"])]
                expected = lines("//own:x -> %s: layer" % b) if package in admitted(spec) else [0]
                self.assertEqual(last(*calls, BREACHES), expected, (spec, package))

    def test_one_of_the_specs_is_enough(self):
        for place in range(8):
            specs = ["//q"] * 8
            specs[place] = "//a"
            self.assertEqual(last(target("//a:x", ["//b:y"]), target("//b:y", [], specs), BREACHES), [0])

    def test_the_same_package(self):
        for package in PACKAGES:
            calls = [target("//%s:x" % package, ["//%s:y" % package]), target("//%s:y" % package)]
            self.assertEqual(last(*calls, BREACHES), [0])

    def test_packages_within_or_around_are_others(self):
        calls = [target("//a:x", ["//a/b:y"]), target("//a/b:y", ["//a:x"])]
        self.assertEqual(last(*calls, BREACHES), lines("//a/b:y -> //a:x: hidden", "//a:x -> //a/b:y: hidden"))

    def test_a_spec_is_about_those_that_depend(self):
        calls = [target("//a:x", ["//b:y"], ["//b", "public"]), target("//b:y", [], ["//b"])]
        self.assertEqual(last(*calls, BREACHES), lines("//a:x -> //b:y: hidden"))


class Breaches(unittest.TestCase):
    def test_none(self):
        self.assertEqual(run(BREACHES), [[0]])

    def test_example(self):
        self.assertEqual(last(*EXAMPLE, BREACHES), lines("//a:x -> //c:z: hidden"))

    def test_example_with_layers(self):
        self.assertEqual(last(*EXAMPLE, layers(["//c", "//..."]), BREACHES),
                         lines("//a:x -> //c:z: hidden", "//c:z -> //a:x: layer"))

    def test_hidden_and_layer(self):
        calls = [layers(["//a", "//b"]), target("//a:x", ["//b:y"]), target("//b:y")]
        self.assertEqual(last(*calls, BREACHES), lines("//a:x -> //b:y: hidden", "//a:x -> //b:y: layer"))

    def test_missing_and_layer(self):
        calls = [layers(["//a", "//b"]), target("//a:x", ["//b:y"])]
        self.assertEqual(last(*calls, BREACHES), lines("//a:x -> //b:y: missing", "//a:x -> //b:y: layer"))

    def test_a_missing_one_is_not_hidden(self):
        self.assertEqual(last(target("//a:x", ["//b:y"]), BREACHES), lines("//a:x -> //b:y: missing"))
        self.assertEqual(last(target("//a:x", ["//a:y"]), BREACHES), lines("//a:x -> //a:y: missing"))

    def test_on_itself(self):
        self.assertEqual(last(layers(["//b", "//a"]), target("//a:x", ["//a:x"]), BREACHES), [0])

    def test_order_is_of_texts_not_of_telling(self):
        calls = [target("//b:x", ["//z:z"]), target("//a:y", ["//z:z", "//m:10", "//m:1"]),
                 target("//a-b:x", ["//m:9", "//m:A", "//m:_", "//m:a", "//m:-"]),
                 target("//a:x", ["//m:m"])]
        self.assertEqual(last(*calls, BREACHES), lines(
            "//a-b:x -> //m:-: missing", "//a-b:x -> //m:9: missing", "//a-b:x -> //m:A: missing",
            "//a-b:x -> //m:_: missing", "//a-b:x -> //m:a: missing", "//a:x -> //m:m: missing",
            "//a:y -> //m:1: missing", "//a:y -> //m:10: missing", "//a:y -> //z:z: missing",
            "//b:x -> //z:z: missing"))

    def test_the_first_16_of_more(self):
        for count in (15, 16, 17, 40):
            calls, told = many(count)
            self.assertEqual(last(*calls, BREACHES), [count] + lines(*told[:16])[1:])

    def test_the_most_there_can_be(self):
        dependencies = ["//b:%x" % number for number in range(16)]
        calls = [target("//a:%02d" % number, dependencies) for number in range(64)]
        told = last(*calls, layers(["//a", "//b"]), BREACHES)
        self.assertEqual(told, [2048] + lines(*["//a:00 -> //b:%x: %s" % (number, word) for number in range(8)
                                                for word in ("missing", "layer")])[1:])

    def test_the_longest_labels(self):
        path = "/".join(["p" * 32, "q" * 32, "r" * 30])
        a = "//%s:%s" % (path, path)
        b = "//%s:%s" % (path, path[:-1])
        self.assertEqual(last(target(a, [b]), BREACHES), lines("%s -> %s: missing" % (a, b)))

    def test_nothing_is_changed_by_asking(self):
        told = run(*EXAMPLE, BREACHES, BREACHES)
        self.assertEqual(told[-1], told[-2])


class Whole(unittest.TestCase):
    """Many graphs, against the words of the document told once more."""

    def breaches(self, targets, order):
        def layer(package):
            return next((place for place, spec in enumerate(order) if package in admitted(spec)), None)

        found = []
        for a in targets:
            for b in targets[a][0]:
                of_a, of_b = a[2:].split(":")[0], b[2:].split(":")[0]
                if b not in targets:
                    found.append((a, b, 1))
                elif of_a != of_b and not any(of_a in admitted(spec) for spec in targets[b][1]):
                    found.append((a, b, 2))
                if None not in (layer(of_a), layer(of_b)) and layer(of_b) > layer(of_a):
                    found.append((a, b, 3))
        return sorted(found, key=lambda breach: (text(breach[0]), text(breach[1]), breach[2]))

    def test_many(self):
        numbers = numbers_from(7)
        plain = [spec for spec in SPECS if not spec.startswith("group:")]
        labels = ["//%s:%s" % (package, name) for package in PACKAGES for name in ("x", "y")]

        def some(things, most):
            return [things[next(numbers) % len(things)] for count in range(next(numbers) % (most + 1))]

        for graph in range(300):
            targets = {label: (sorted(set(some(labels, 5))), some(SPECS, 3)) for label in some(labels, 12)}
            order = some(plain[2:], 4)
            calls = [group(name, specs) for name, specs in GROUPS.items()] + [layers(order)]
            calls += [target(label, *targets[label]) for label in targets]
            found = self.breaches(targets, order)
            words = ["%s -> %s: %s" % (a, b, ("missing", "hidden", "layer")[number - 1]) for a, b, number in found]
            self.assertEqual(last(*calls, BREACHES), [len(words)] + lines(*words[:16])[1:])
            if found:
                a, b, number = found[0]
                self.assertEqual(last(*calls, CHECK), first_told(number, a, b))


if __name__ == "__main__":
    unittest.main()
