"""Point 2: remove."""

import unittest

from helper import ABSENT, BREACHES, CIRCLE, EXAMPLE, LABEL, last, lines, remove, run, target


class Remove(unittest.TestCase):
    def test_it_is_gone(self):
        told = run(target("//a:x", ["//b:y"]), target("//b:y", ["//a:x"], ["public"]), remove("//a:x"), BREACHES,
                   CIRCLE, remove("//a:x"))
        self.assertEqual(told[2:], [[0], lines("//b:y -> //a:x: missing"), [0], [ABSENT]])

    def test_only_that_one_is_gone(self):
        told = run(target("//a:x", ["//a:x"]), target("//a:y", ["//a:y"]), remove("//a:x"), CIRCLE, remove("//a:y"),
                   CIRCLE)
        self.assertEqual(told[2:], [[0], lines("//a:y"), [0], [0]])

    def test_absent(self):
        self.assertEqual(run(remove("//a:x")), [[ABSENT]])
        self.assertEqual(last(target("//a:x", ["//b:y"]), remove("//b:y")), [ABSENT])

    def test_label(self):
        for label in ["", "//a", "a:x", "//a:", "//a:..", "//a:x\n", "x" * 2000]:
            self.assertEqual(last(target("//a:x"), remove(label)), [LABEL], label)

    def test_all_stays_as_it_was(self):
        before = run(*EXAMPLE, BREACHES, CIRCLE)
        told = run(*EXAMPLE, remove("//a"), remove("//a:y"), BREACHES, CIRCLE)
        self.assertEqual(told[4:], [[LABEL], [ABSENT]] + before[4:])

    def test_without_the_target_in_the_examples_circle(self):
        told = run(*EXAMPLE, remove("//c:z"), BREACHES, CIRCLE)
        self.assertEqual(told[5:], [lines("//a:x -> //c:z: missing", "//b:y -> //c:z: missing"), [0]])


if __name__ == "__main__":
    unittest.main()
