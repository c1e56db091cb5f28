"""Point 7: circle."""

import itertools
import unittest

from helper import CHECK, CIRCLE, EXAMPLE, last, lines, numbers_from, run, target, text


def graph(edges, labels=()):
    """Calls for the targets of one package that have these edges, told from the last label on."""
    found = {label: [] for label in labels}
    for a, b in edges:
        if b not in found.setdefault(a, []):
            found[a].append(b)
    return [target("//p:" + a, ["//p:" + b for b in found[a]]) for a in sorted(found, reverse=True)]


def told(*names):
    return lines(*["//p:" + name for name in names])


def path(names):
    """The edges from each of the names to the next one, and from the last one to the first one."""
    return list(zip(names, names[1:] + names[:1]))


def least_by_trying(edges, labels):
    """The least circle, found by trying all lists of labels."""
    for length in range(1, len(labels) + 1):
        for names in itertools.permutations(sorted(labels), length):
            if names[0] == min(names) and all(edge in edges for edge in path(names)):
                return told(*names)
    return [0]


class Circle(unittest.TestCase):
    def test_none(self):
        self.assertEqual(run(CIRCLE), [[0]])
        self.assertEqual(last(*graph(["ab", "bc", "ac"], "abc"), CIRCLE), [0])

    def test_example(self):
        self.assertEqual(last(*EXAMPLE, CIRCLE), lines("//a:x", "//c:z"))
        self.assertEqual(last(*EXAMPLE, target("//c:z", [], ["//b/...", "//q"]), CIRCLE), [0])

    def test_on_itself(self):
        self.assertEqual(last(*graph(["aa"]), CIRCLE), told("a"))
        self.assertEqual(last(*graph(["ab", "ba", "cc"]), CIRCLE), told("c"))
        self.assertEqual(last(*graph(["cc", "bb", "dd"]), CIRCLE), told("b"))

    def test_told_from_the_smallest_label_on(self):
        self.assertEqual(last(*graph(path(["c", "b", "a"])), CIRCLE), told("a", "c", "b"))

    def test_fewer_targets_are_less(self):
        self.assertEqual(last(*graph(path(["a", "b", "c"]) + path(["x", "y"])), CIRCLE), told("x", "y"))
        self.assertEqual(last(*graph(path(["a", "b", "c", "d"]) + ["db"]), CIRCLE), told("b", "c", "d"))

    def test_of_as_many_the_smaller_label_that_differs_first(self):
        self.assertEqual(last(*graph(path(["b", "c"]) + path(["a", "d"])), CIRCLE), told("a", "d"))
        self.assertEqual(last(*graph(path(["a", "c"]) + path(["a", "b"])), CIRCLE), told("a", "b"))
        self.assertEqual(last(*graph(path(["a", "b", "e"]) + path(["a", "c", "d"])), CIRCLE), told("a", "b", "e"))
        self.assertEqual(last(*graph(path(["a", "b", "d"]) + path(["a", "b", "c"])), CIRCLE), told("a", "b", "c"))

    def test_a_smaller_second_label_goes_ahead_of_a_smaller_third_one(self):
        self.assertEqual(last(*graph(["ab", "ac", "bz", "cd", "da", "za"]), CIRCLE), told("a", "b", "z"))

    def test_a_smaller_step_that_leads_nowhere(self):
        self.assertEqual(last(*graph(["ab", "ac", "bd", "ca"], "abcd"), CIRCLE), told("a", "c"))

    def test_through_a_smaller_label_that_is_not_on_a_circle(self):
        self.assertEqual(last(*graph(["ba", "bc", "cb"], "abc"), CIRCLE), told("b", "c"))

    def test_labels_without_targets_are_on_no_circle(self):
        self.assertEqual(last(target("//p:a", ["//p:b"]), CIRCLE), [0])

    def test_breaches_do_not_matter(self):
        self.assertEqual(last(target("//a:x", ["//b:y"]), target("//b:y", ["//a:x"]), CIRCLE),
                         lines("//a:x", "//b:y"))

    def test_order_of_texts(self):
        calls = [target("//a:x", ["//a:x"]), target("//a-:x", ["//a-:x"]), target("//a/b:x", ["//a/b:x"])]
        self.assertEqual(last(*calls, CIRCLE), lines("//a-:x"))

    def test_all_64(self):
        names = ["%02d" % number for number in range(64)]
        self.assertEqual(last(*graph(path(names)), CIRCLE), told(*names))

    def test_many_dependencies(self):
        names = ["%02d" % number for number in range(64)]
        forward = [(names[a], names[b]) for a in range(64) for b in range(a + 1, min(64, a + 16))]
        self.assertEqual(last(*graph(forward, names), CIRCLE), [0])
        # From 00 four steps of 15 at most lead to 60, and the smallest labels on the way are 15, 30, 45.
        self.assertEqual(last(*graph(forward + [("60", "00")], names), CIRCLE), told("00", "15", "30", "45", "60"))
        self.assertEqual(last(*graph(forward + [("59", "00")], names), CIRCLE), told("00", "14", "29", "44", "59"))


class Whole(unittest.TestCase):
    def compare(self, edges, labels):
        calls = graph(edges, labels)
        expected = least_by_trying(edges, labels)
        circle, check = run(*calls, CIRCLE, CHECK)[-2:]
        self.assertEqual(circle, expected, edges)
        # All targets are of one package and there, so that only a circle can be told.
        first = text("//p:" + chr(circle[5])) if circle[0] else None
        self.assertEqual(check, [1, 4, 5] + first if first else [0])

    def test_all_graphs_of_three(self):
        pairs = list(itertools.product("abc", repeat=2))
        for bits in range(1 << len(pairs)):
            self.compare([pair for place, pair in enumerate(pairs) if bits >> place & 1], "abc")

    def test_many_graphs_of_six(self):
        numbers = numbers_from(3)
        pairs = [pair for pair in itertools.product("abcdef", repeat=2) if pair[0] != pair[1]]
        for count in range(400):
            share = 1 + count % 5
            self.compare([pair for pair in pairs if next(numbers) % 10 < share], "abcdef")


if __name__ == "__main__":
    unittest.main()
