"""Point 4: layers."""

import unittest

from helper import BREACHES, LIMIT, LIST, SPEC, last, layers, lines, listed, raw_layers, run, subsets, target

UP = lines("//a:x -> //b:y: layer")
PAIR = [target("//a:x", ["//b:y"]), target("//b:y", [], ["public"])]


def faulty(faults):
    specs = ["public"] * (9 if "limit" in faults else 2)
    if "spec" in faults:
        specs.append("private")
    return raw_layers(listed(specs) + ([1, 256] if "list" in faults else []))


class Layers(unittest.TestCase):
    def test_how_many(self):
        for count in range(9):
            self.assertEqual(last(layers(["//p%d" % number for number in range(count)])), [count])
        self.assertEqual(last(layers(["public"] * 9)), [LIMIT])

    def test_the_same_spec_may_stand_twice(self):
        self.assertEqual(run(layers(["//a", "//a"])), [[2]])

    def test_a_lower_layer_on_a_higher_one(self):
        self.assertEqual(last(*PAIR, layers(["//a", "//b"]), BREACHES), UP)
        self.assertEqual(last(*PAIR, layers(["//a", "//q", "//b"]), BREACHES), UP)
        self.assertEqual(last(*PAIR, layers(["//b", "//a"]), BREACHES), [0])

    def test_the_first_that_admits_counts(self):
        self.assertEqual(last(*PAIR, layers(["//a", "//...", "//b"]), BREACHES), UP)
        self.assertEqual(last(*PAIR, layers(["//...", "//b"]), BREACHES), [0])
        self.assertEqual(last(*PAIR, layers(["//b", "//a", "//b"]), BREACHES), [0])

    def test_packages_without_layers(self):
        for specs in [[], ["//a"], ["//b"], ["//q", "//a"], ["//q", "//b"], ["//a/b", "//b/c"], ["//a", "//b/b"]]:
            self.assertEqual(last(*PAIR, layers(specs), BREACHES), [0], specs)

    def test_all_eight_layers(self):
        specs = ["//l%d" % number for number in range(8)]
        for a in range(8):
            for b in range(8):
                calls = [target("//l%d:x" % a, ["//l%d:y" % b]), target("//l%d:y" % b, [], ["public"])]
                expected = lines("//l%d:x -> //l%d:y: layer" % (a, b)) if b > a else [0]
                self.assertEqual(last(layers(specs), *calls, BREACHES), expected)

    def test_these_are_the_layers_in_the_place_of_the_former_ones(self):
        self.assertEqual(run(*PAIR, layers(["//a", "//b"]), layers(["//q"]), BREACHES)[2:], [[2], [1], [0]])
        self.assertEqual(run(*PAIR, layers(["//a", "//b"]), layers(), BREACHES)[2:], [[2], [0], [0]])

    def test_specs(self):
        for spec in ["", "private", "group:g", "group:", "///...", "//a/", "//a:x", "a", "//."]:
            self.assertEqual(last(layers([spec])), [SPEC], spec)
            self.assertEqual(last(layers(["public", spec])), [SPEC], spec)
        for spec in ["public", "//", "//...", "//a", "//a/..."]:
            self.assertEqual(last(layers([spec])), [1], spec)

    def test_not_lists(self):
        for numbers in [[1], [-1], [0, -5], [1, 256], [1, -1], listed(["public"])[:-1], [10 ** 18], [-10 ** 18]]:
            self.assertEqual(last(raw_layers(numbers)), [LIST], numbers)

    def test_the_first_refusal_of_those_that_hold(self):
        numbers = {"list": LIST, "limit": LIMIT, "spec": SPEC}
        for faults in subsets(list(numbers)):
            self.assertEqual(last(faulty(faults)), [numbers[faults[0]]], faults)
        self.assertEqual(last(faulty([])), [2])

    def test_all_stays_as_it_was(self):
        for call in [raw_layers([1]), layers(["public"] * 9), layers(["public", "private"]), layers(["group:g"])]:
            told = run(*PAIR, layers(["//a", "//b"]), call, BREACHES)
            self.assertLess(told[3][0], 0)
            self.assertEqual(told[4], UP)


if __name__ == "__main__":
    unittest.main()
