"""Point 14: above."""

import unittest

from helper import ABSENT, BAD_LABELS, EXAMPLE, LABEL, OPEN_EXAMPLE, above, chain, last, lines, remove, run, target


class Above(unittest.TestCase):
    def test_example(self):
        self.assertEqual(last(*OPEN_EXAMPLE, above("//c:z")), lines("//a:x", "//b:y"))
        self.assertEqual(last(*OPEN_EXAMPLE, above("//b:y")), lines("//a:x"))
        self.assertEqual(last(*OPEN_EXAMPLE, above("//a:x")), [0])

    def test_in_the_circles_of_the_example(self):
        self.assertEqual(last(*EXAMPLE, above("//a:x")), lines("//b:y", "//c:z"))
        self.assertEqual(last(*EXAMPLE, above("//b:y")), lines("//a:x", "//c:z"))
        self.assertEqual(last(*EXAMPLE, above("//c:z")), lines("//a:x", "//b:y"))

    def test_none(self):
        self.assertEqual(last(target("//a:x"), above("//a:x")), [0])
        self.assertEqual(last(target("//a:x", ["//a:y"]), target("//a:y"), above("//a:x")), [0])

    def test_not_itself(self):
        self.assertEqual(last(target("//a:x", ["//a:x"]), above("//a:x")), [0])
        calls = [target("//a:x", ["//a:x"]), target("//a:y", ["//a:x"])]
        self.assertEqual(last(*calls, above("//a:x")), lines("//a:y"))

    def test_circles_above_and_below(self):
        calls = [target("//a:1", ["//a:2"]), target("//a:2", ["//a:1", "//a:3"]), target("//a:3", ["//a:4"]),
                 target("//a:4", ["//a:5"]), target("//a:5", ["//a:4"])]
        self.assertEqual(last(*calls, above("//a:3")), lines("//a:1", "//a:2"))
        self.assertEqual(last(*calls, above("//a:4")), lines("//a:1", "//a:2", "//a:3", "//a:5"))
        self.assertEqual(last(*calls, above("//a:1")), lines("//a:2"))

    def test_each_once_on_several_ways(self):
        calls = [target("//a:1", ["//a:2", "//a:3", "//a:4"]), target("//a:2", ["//a:4"]), target("//a:3", ["//a:4"]),
                 target("//a:4")]
        self.assertEqual(last(*calls, above("//a:4")), lines("//a:1", "//a:2", "//a:3"))

    def test_in_the_order_of_texts(self):
        labels = ["//-:x", "//:x", "//A:x", "//a-:x", "//a/b:x", "//a:1", "//a:10", "//a:9", "//a:_", "//a:a", "//ab:x"]
        ordered = sorted(labels, key=lambda label: label.encode("ascii"))
        calls = [target("//z:z")] + [target(label, ["//z:z"]) for label in labels[4:] + labels[:4]]
        self.assertEqual(last(*calls, above("//z:z")), lines(*ordered))

    def test_not_through_a_label_without_a_target(self):
        calls = [target("//a:1", ["//a:2"]), target("//a:2", ["//a:3"]), target("//a:3")]
        self.assertEqual(last(*calls, above("//a:3")), lines("//a:1", "//a:2"))
        self.assertEqual(last(*calls, remove("//a:2"), above("//a:3")), [0])
        self.assertEqual(last(*calls, target("//a:2"), above("//a:3")), [0])

    def test_breaches_do_not_matter(self):
        calls = [target("//a:x", ["//b:y", "//m:m"]), target("//b:y")]
        self.assertEqual(last(*calls, above("//b:y")), lines("//a:x"))

    def test_a_chain_of_all_64(self):
        calls, labels = chain(64)
        self.assertEqual(last(*calls, above(labels[63])), lines(*labels[:63]))
        self.assertEqual(last(*calls, above(labels[20])), lines(*labels[:20]))
        self.assertEqual(last(*calls, above(labels[0])), [0])

    def test_a_circle_of_all_64(self):
        calls, labels = chain(64)
        calls[63] = target(labels[63], labels[:1])
        self.assertEqual(last(*calls, above(labels[30])), lines(*labels[:30], *labels[31:]))

    def test_labels(self):
        for label in BAD_LABELS:
            self.assertEqual(last(target("//a:x"), above(label)), [LABEL], label)

    def test_absent(self):
        self.assertEqual(run(above("//a:x")), [[ABSENT]])
        self.assertEqual(last(target("//a:x", ["//b:y"]), above("//b:y")), [ABSENT])
        self.assertEqual(last(target("//a:x"), remove("//a:x"), above("//a:x")), [ABSENT])


if __name__ == "__main__":
    unittest.main()
