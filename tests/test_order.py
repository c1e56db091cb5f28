"""Point 8: order."""

import unittest

from helper import (ABSENT, BAD_LABELS, EXAMPLE, IN_CIRCLE, LABEL, LIST, MISSING, NOT_LISTS, OPEN_EXAMPLE, chain, last,
                    layers, lines, listed, order, raw_order, remove, run, subsets, target)


def graph(words):
    """Calls for targets of the package p: "a:bc" depends on b and c, "b" on none."""
    calls = []
    for word in words.split():
        name, colon, dependencies = word.partition(":")
        calls.append(target("//p:" + name, ["//p:" + dependency for dependency in dependencies]))
    return calls


def goals(names):
    return order(["//p:" + name for name in names])


def told(names):
    return lines(*["//p:" + name for name in names])


class Order(unittest.TestCase):
    def compare(self, words, names, expected):
        self.assertEqual(last(*graph(words), goals(names)), told(expected), (words, names))

    def test_example(self):
        self.assertEqual(last(*OPEN_EXAMPLE, order(["//a:x"])), lines("//c:z", "//b:y", "//a:x"))
        self.assertEqual(last(*OPEN_EXAMPLE, order(["//b:y"])), lines("//c:z", "//b:y"))
        self.assertEqual(last(*OPEN_EXAMPLE, order(["//c:z"])), lines("//c:z"))

    def test_example_with_its_circles(self):
        for goal in ["//a:x", "//b:y", "//c:z"]:
            self.assertEqual(last(*EXAMPLE, order([goal])), [IN_CIRCLE])

    def test_no_goals(self):
        self.assertEqual(run(order()), [[0]])
        self.assertEqual(last(*graph("a:b b"), order()), [0])
        self.assertEqual(last(*graph("a:a b:z"), order()), [0])

    def test_a_goal_told_twice(self):
        self.compare("a:b b", "aa", "ba")
        self.compare("a:b b", "aba", "ba")
        self.assertEqual(last(target("//:x"), order(["//:x"] * 1000)), lines("//:x"))

    def test_goals_that_rest_on_one_another(self):
        for names in ["abc", "cba", "ac", "ca", "a", "bca"]:
            self.compare("a:b b:c c", names, "cba")

    def test_each_once_on_several_ways(self):
        self.compare("a:bc b:d c:d d", "a", "dbca")
        self.compare("a:dcb b:d c:db d", "a", "dbca")

    def test_not_what_the_goals_do_not_rest_on(self):
        self.compare("a:b b c:b d:a", "a", "ba")
        self.compare("a:b b c:b d", "b", "b")

    def test_ever_the_smallest_that_can_be_next(self):
        self.compare("a:z b z", "ab", "bza")
        self.compare("a:b b c", "ca", "bac")
        self.compare("a:d b:c c d", "ab", "cbda")
        self.compare("z:y y:x x:a b:x a", "zb", "axbyz")
        self.compare("a b c d", "dbca", "abcd")
        self.compare("m:ab b:n n a:o o", "m", "nboam")

    def test_order_of_dependencies_and_of_telling_does_not_matter(self):
        self.compare("d:abc c b a", "d", "abcd")
        self.compare("a b c d:cba", "d", "abcd")

    def test_order_of_texts(self):
        labels = ["//-:x", "//:x", "//A:x", "//a-:x", "//a/b:x", "//a:1", "//a:10", "//a:1a", "//a:9", "//a:_", "//a:a",
                  "//a:a/b", "//ab:x"]
        ordered = sorted(labels, key=lambda label: label.encode("ascii"))
        calls = [target(label) for label in reversed(labels)]
        self.assertEqual(last(*calls, order(labels[3:] + labels[:3])), lines(*ordered))

    def test_breaches_other_than_missing_do_not_matter(self):
        calls = [layers(["//a", "//b"]), target("//a:x", ["//b:y"]), target("//b:y")]
        self.assertEqual(last(*calls, order(["//a:x"])), lines("//b:y", "//a:x"))

    def test_a_chain_of_all_64(self):
        calls, labels = chain(64)
        self.assertEqual(last(*calls, order(labels[:1])), lines(*reversed(labels)))
        self.assertEqual(last(*calls, order(labels)), lines(*reversed(labels)))
        self.assertEqual(last(*calls, order(labels[40:41])), lines(*reversed(labels[40:])))
        self.assertEqual(last(*calls, target(labels[63], labels[:1]), order(labels[:1])), [IN_CIRCLE])
        self.assertEqual(last(*calls, target(labels[63], ["//q:q"]), order(labels[:1])), [MISSING])

    def test_many_dependencies(self):
        labels = ["//p:%02d" % number for number in range(64)]
        calls = [target(label, labels[place + 1:place + 17]) for place, label in enumerate(labels)]
        self.assertEqual(last(*calls, order(labels[:1])), lines(*reversed(labels)))


class Refusals(unittest.TestCase):
    def refused(self, words, names, number):
        self.assertEqual(last(*graph(words), goals(names)), [number], (words, names))

    def test_circles_that_the_goals_rest_on(self):
        self.refused("a:a", "a", IN_CIRCLE)
        self.refused("a:b b:a", "a", IN_CIRCLE)
        self.refused("a:b b:c c:b", "a", IN_CIRCLE)
        self.refused("a:b b:c c:c d", "da", IN_CIRCLE)
        self.refused("a:b b:c c:d d:a", "c", IN_CIRCLE)

    def test_circles_that_the_goals_do_not_rest_on(self):
        self.assertEqual(last(*graph("a:b b c:d d:c"), goals("a")), told("ba"))
        self.assertEqual(last(*graph("a:b b c:ad d:c"), goals("a")), told("ba"))
        self.assertEqual(last(*graph("a c:c"), goals("a")), told("a"))

    def test_missing(self):
        self.refused("a:z", "a", MISSING)
        self.refused("a:bc b c:z", "a", MISSING)
        self.refused("a:b b:c c:z", "a", MISSING)
        self.refused("a b:z", "ab", MISSING)

    def test_missing_that_the_goals_do_not_rest_on(self):
        self.assertEqual(last(*graph("a:b b c:z"), goals("a")), told("ba"))
        self.assertEqual(last(*graph("a:b b c:az"), goals("ab")), told("ba"))

    def test_missing_ahead_of_circle(self):
        self.refused("a:az", "a", MISSING)
        self.refused("a:b b:az", "a", MISSING)
        self.refused("a:a b:z", "ab", MISSING)

    def test_a_removed_target_is_missing_and_absent(self):
        calls = graph("a:b b") + [remove("//p:b")]
        self.assertEqual(last(*calls, goals("a")), [MISSING])
        self.assertEqual(last(*calls, goals("b")), [ABSENT])

    def test_absent(self):
        self.assertEqual(run(goals("a")), [[ABSENT]])
        self.refused("a:z", "az", ABSENT)
        self.refused("a:a", "ax", ABSENT)
        self.refused("a", "xa", ABSENT)

    def test_labels(self):
        for label in BAD_LABELS:
            for texts in [[label], ["//p:a", label], [label, "//p:a"], ["//p:none", label]]:
                self.assertEqual(last(*graph("a"), order(texts)), [LABEL], texts)
        for numbers in [[0], [1, 0], [1, 255], [0] * 5000, [4999] + [97] * 4999]:
            self.assertEqual(last(raw_order(numbers)), [LABEL])

    def test_not_lists(self):
        for numbers in NOT_LISTS:
            self.assertEqual(last(*graph("a"), raw_order(numbers)), [LIST], numbers)
            self.assertEqual(last(*graph("a"), raw_order(listed(["//p:a"]) + numbers)), [LIST], numbers)

    def test_the_first_of_those_that_hold(self):
        numbers = {"list": LIST, "label": LABEL, "absent": ABSENT, "missing": MISSING, "circle": IN_CIRCLE}
        wrong = {"label": "//p", "absent": "//p:none", "missing": "//p:m", "circle": "//p:c"}
        calls = graph("a:b b m:z c:d d:c")
        for faults in subsets(list(numbers)):
            texts = ["//p:a"] + [wrong[fault] for fault in faults if fault in wrong]
            for ordered in (texts, texts[::-1]):
                tail = [1] if "list" in faults else []
                self.assertEqual(last(*calls, raw_order(listed(ordered) + tail)), [numbers[faults[0]]], faults)
        self.assertEqual(last(*calls, goals("a")), told("ba"))


if __name__ == "__main__":
    unittest.main()
