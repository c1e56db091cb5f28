"""Point 3: group."""

import unittest

from helper import (BREACHES, FULL, LIMIT, LIST, NAME, SPEC, group, last, lines, listed, raw_group, run, subsets,
                    target)

HIDDEN = lines("//a:x -> //b:y: hidden")


def all_16():
    return [group("g%d" % number, ["public"]) for number in range(16)]


def shown_to_group(name):
    return [target("//a:x", ["//b:y"]), target("//b:y", [], ["group:" + name])]


def faulty(faults):
    """A call of group with these faults and no other ones."""
    specs = ["public"] * (9 if "limit" in faults else 2)
    if "spec" in faults:
        specs.append("private")
    numbers = listed(specs)
    if "list" in faults:
        numbers += [-1]
    return raw_group("n.n" if "name" in faults else "new", numbers)


class Group(unittest.TestCase):
    def test_new_and_told_again(self):
        self.assertEqual(run(group("g"), group("g", ["public"]), group("G"), group("g")), [[1], [0], [1], [0]])

    def test_those_that_its_specs_admit_see(self):
        before = shown_to_group("g")
        self.assertEqual(last(*before, BREACHES), HIDDEN)
        self.assertEqual(last(*before, group("g"), BREACHES), HIDDEN)
        self.assertEqual(last(*before, group("g", ["//b", "//c/..."]), BREACHES), HIDDEN)
        self.assertEqual(last(*before, group("h", ["public"]), BREACHES), HIDDEN)
        for spec in ["public", "//a", "//a/...", "//..."]:
            self.assertEqual(last(*before, group("g", ["//q", spec]), BREACHES), [0], spec)

    def test_what_is_told_again_holds_alone(self):
        before = shown_to_group("g")
        self.assertEqual(last(*before, group("g", ["//a"]), group("g", ["//q"]), BREACHES), HIDDEN)
        self.assertEqual(last(*before, group("g", ["//a"]), group("g"), BREACHES), HIDDEN)
        self.assertEqual(last(*before, group("g", ["//q"]), group("g", ["//a"]), BREACHES), [0])

    def test_it_may_be_told_ahead_of_the_targets(self):
        self.assertEqual(last(group("g", ["//a"]), *shown_to_group("g"), BREACHES), [0])

    def test_names(self):
        for name in ["g", "g" * 32, "aZ09_-", "-", "_", "0", "public"]:
            self.assertEqual(last(group(name)), [1], name)
        for name in ["", "g" * 33, "a.b", ".", "a/b", "a b", "group:g", "g\n", "\xff", "g" * 2000]:
            self.assertEqual(last(group(name)), [NAME], name)

    def test_specs(self):
        for spec in ["public", "//", "//...", "//a", "//a/...", "//...a", "//.../..."]:
            self.assertEqual(last(group("g", [spec])), [1], spec)
        for spec in ["", "private", "group:g", "group:h", "group:", "///...", "//a/", "//a:x", "a", "//.."]:
            self.assertEqual(last(group("h"), group("g", [spec])), [SPEC], spec)
            self.assertEqual(last(group("g", ["public", spec])), [SPEC], spec)

    def test_limits(self):
        self.assertEqual(last(group("g", ["public"] * 8)), [1])
        self.assertEqual(last(group("g", ["public"] * 9)), [LIMIT])
        self.assertEqual(run(*all_16(), group("new"), group("g3")), [[1]] * 16 + [[FULL], [0]])

    def test_not_lists(self):
        for numbers in [[1], [-1], [0, -5], [1, 256], [1, -1], listed(["public"])[:-1], [10 ** 18], [-10 ** 18]]:
            self.assertEqual(last(raw_group("g", numbers)), [LIST], numbers)

    def test_the_first_refusal_of_those_that_hold(self):
        numbers = {"name": NAME, "list": LIST, "limit": LIMIT, "spec": SPEC, "full": FULL}
        for faults in subsets(list(numbers)):
            before = all_16() if "full" in faults else []
            self.assertEqual(last(*before, faulty(faults)), [numbers[faults[0]]], faults)
        self.assertEqual(last(faulty([])), [1])

    def test_all_stays_as_it_was(self):
        before = shown_to_group("g") + [group("g", ["//q"])]
        for call in [raw_group("g", listed(["public"]) + [1]), group("g", ["public"] * 9),
                     group("g", ["public", "private"]), group("g", ["public", "group:g"])]:
            told = run(*before, call, BREACHES)
            self.assertLess(told[3][0], 0)
            self.assertEqual(told[4], HIDDEN)

    def test_a_group_too_many_is_not_there(self):
        told = run(*shown_to_group("new"), *all_16(), group("new", ["public"]), BREACHES)
        self.assertEqual(told[18:], [[FULL], HIDDEN])


if __name__ == "__main__":
    unittest.main()
