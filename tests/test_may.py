"""Point 9: may."""

import unittest

from helper import (ABSENT, BAD_LABELS, EXAMPLE, LABEL, OPEN_EXAMPLE, chain, group, last, layers, may, remove, run,
                    subsets, target)

FREE, NO_TARGET, CIRCLE, HIDDEN, LAYER, ALREADY = range(6)


def faulty(faults):
    """Calls that end with may of //a:x on //b:y, which would break just these rules."""
    of_x, of_y, specs, order = [], [], ["//a"], ["//b", "//a"]
    if "already" in faults:
        of_x.append("//b:y")
    if "circle" in faults:
        of_y.append("//a:x")
    if "hidden" in faults:
        specs = ["//b", "//a/..../..."]
    if "layer" in faults:
        order = ["//a", "//b"]
    calls = [layers(order), target("//a:x", of_x)]
    if "no target" not in faults:
        calls.append(target("//b:y", of_y, specs))
    return calls + [may("//a:x", "//b:y")]


class May(unittest.TestCase):
    def test_example(self):
        self.assertEqual(last(*OPEN_EXAMPLE, may("//c:z", "//a:x")), [CIRCLE])
        self.assertEqual(last(*OPEN_EXAMPLE, layers(["//c", "//..."]), may("//c:z", "//a:x")), [CIRCLE])
        self.assertEqual(last(*OPEN_EXAMPLE, may("//a:x", "//c:z")), [ALREADY])
        self.assertEqual(last(*EXAMPLE, may("//c:z", "//a:x")), [ALREADY])
        self.assertEqual(last(*EXAMPLE, may("//c:z", "//b:y")), [CIRCLE])

    def test_each_answer_and_the_first_of_those_that_hold(self):
        numbers = {"already": ALREADY, "no target": NO_TARGET, "circle": CIRCLE, "hidden": HIDDEN, "layer": LAYER}
        for faults in subsets(list(numbers)):
            self.assertEqual(last(*faulty(faults)), [numbers[faults[0]]], faults)
        self.assertEqual(last(*faulty([])), [FREE])

    def test_on_itself(self):
        self.assertEqual(last(target("//a:x"), may("//a:x", "//a:x")), [CIRCLE])
        self.assertEqual(last(target("//a:x", ["//a:x"]), may("//a:x", "//a:x")), [ALREADY])
        self.assertEqual(last(target("//a:x", ["//a:y"]), target("//a:y", ["//a:x"]), may("//a:x", "//a:x")), [CIRCLE])

    def test_already_ahead_of_all_others(self):
        self.assertEqual(last(target("//a:x", ["//m:m"]), may("//a:x", "//m:m")), [ALREADY])
        calls = [layers(["//a", "//b"]), target("//a:x", ["//b:y"]), target("//b:y", ["//a:x"])]
        self.assertEqual(last(*calls, may("//a:x", "//b:y")), [ALREADY])

    def test_only_what_a_itself_depends_on_is_already_there(self):
        calls, labels = chain(3)
        self.assertEqual(last(*calls, may(labels[0], labels[1])), [ALREADY])
        self.assertEqual(last(*calls, may(labels[0], labels[2])), [FREE])

    def test_no_target_b(self):
        self.assertEqual(last(target("//a:x"), may("//a:x", "//a:y")), [NO_TARGET])
        self.assertEqual(last(target("//a:x"), target("//a:y"), remove("//a:y"), may("//a:x", "//a:y")), [NO_TARGET])
        calls = [layers(["//a", "//b"]), target("//a:x")]
        self.assertEqual(last(*calls, may("//a:x", "//b:y")), [NO_TARGET])

    def test_circles_of_any_length(self):
        calls, labels = chain(64)
        for place in range(0, 64, 7):
            self.assertEqual(last(*calls, may(labels[63], labels[place])), [CIRCLE])
            self.assertEqual(last(*calls, may(labels[place], labels[0])), [CIRCLE])
        self.assertEqual(last(*calls, may(labels[0], labels[63])), [FREE])

    def test_a_way_through_a_label_without_a_target_closes_no_circle(self):
        calls = [target("//a:x"), target("//a:z", ["//a:y"])]
        self.assertEqual(last(*calls, may("//a:x", "//a:z")), [FREE])
        self.assertEqual(last(*calls, target("//a:y", ["//a:x"]), may("//a:x", "//a:z")), [CIRCLE])
        self.assertEqual(last(*calls, target("//a:y", ["//a:x"]), remove("//a:y"), may("//a:x", "//a:z")), [FREE])

    def test_circles_elsewhere_do_not_matter(self):
        calls = [target("//a:x"), target("//a:y", ["//a:z"]), target("//a:z", ["//a:y"])]
        self.assertEqual(last(*calls, may("//a:x", "//a:y")), [FREE])

    def test_other_breaches_do_not_matter(self):
        calls = [target("//a:x", ["//m:m"]), target("//a:y", ["//n:n"])]
        self.assertEqual(last(*calls, may("//a:x", "//a:y")), [FREE])

    def test_it_asks_whether_a_sees_b(self):
        calls = [target("//a:x", [], ["//b"]), target("//b:y", [], ["//c"])]
        self.assertEqual(last(*calls, may("//a:x", "//b:y")), [HIDDEN])
        self.assertEqual(last(*calls, may("//b:y", "//a:x")), [FREE])
        shown = [target("//a:x"), target("//b:y", [], ["group:g"])]
        self.assertEqual(last(*shown, may("//a:x", "//b:y")), [HIDDEN])
        self.assertEqual(last(*shown, group("g", ["//a/..."]), may("//a:x", "//b:y")), [FREE])

    def test_layers(self):
        calls = [target("//a:x", [], ["public"]), target("//b:y", [], ["public"])]
        for specs, up in [(["//a", "//b"], True), (["//b", "//a"], False), (["//..."], False), (["//a"], False),
                          (["//b"], False), (["//q", "//a", "//r", "public"], True), ([], False)]:
            self.assertEqual(last(*calls, layers(specs), may("//a:x", "//b:y")), [LAYER if up else FREE], specs)


class Refusals(unittest.TestCase):
    def test_labels(self):
        for label in BAD_LABELS:
            for a, b in [(label, "//a:x"), ("//a:x", label), (label, label), ("//none:x", label), (label, "//none:x")]:
                self.assertEqual(last(target("//a:x"), may(a, b)), [LABEL], (a, b))

    def test_absent(self):
        self.assertEqual(run(may("//a:x", "//a:x")), [[ABSENT]])
        self.assertEqual(last(target("//a:x"), may("//a:y", "//a:x")), [ABSENT])
        self.assertEqual(last(target("//a:x", ["//a:y"]), may("//a:y", "//a:z")), [ABSENT])
        self.assertEqual(last(target("//a:x"), remove("//a:x"), may("//a:x", "//a:x")), [ABSENT])


if __name__ == "__main__":
    unittest.main()
