"""Point 5: check."""

import unittest

from helper import CHECK, EXAMPLE, first_told, last, layers, remove, run, target, text


class Check(unittest.TestCase):
    def test_nothing_to_tell(self):
        self.assertEqual(run(CHECK), [[0]])
        self.assertEqual(last(target("//a:x", ["//b:y"]), target("//b:y", [], ["//a"]), CHECK), [0])

    def test_example(self):
        self.assertEqual(last(*EXAMPLE, CHECK), first_told(2, "//a:x", "//c:z"))

    def test_example_without_the_dependency_that_closes_its_circles(self):
        calls = [*EXAMPLE, target("//c:z", [], ["//b/...", "//q", "//a"])]
        self.assertEqual(last(*calls, CHECK), [0])
        self.assertEqual(last(*calls, layers(["//c", "//..."]), CHECK), [0])

    def test_each_breach(self):
        self.assertEqual(last(target("//a:x", ["//b:y"]), CHECK), first_told(1, "//a:x", "//b:y"))
        calls = [target("//a:x", ["//b:y"]), target("//b:y")]
        self.assertEqual(last(*calls, CHECK), first_told(2, "//a:x", "//b:y"))
        calls = [target("//a:x", ["//b:y"]), target("//b:y", [], ["public"]), layers(["//a", "//b"])]
        self.assertEqual(last(*calls, CHECK), first_told(3, "//a:x", "//b:y"))

    def test_the_smaller_number_first(self):
        calls = [target("//a:x", ["//b:yy"]), layers(["//a", "//b"])]
        self.assertEqual(last(*calls, CHECK), first_told(1, "//a:x", "//b:yy"))
        self.assertEqual(last(*calls, target("//b:yy"), CHECK), first_told(2, "//a:x", "//b:yy"))

    def test_the_first_a_and_then_the_first_b(self):
        calls = [target("//b:x", ["//m:m"]), target("//a:x", ["//n:nn", "//c:h", "//m:m"]), target("//c:h")]
        self.assertEqual(last(*calls, CHECK), first_told(2, "//a:x", "//c:h"))
        self.assertEqual(last(*calls, remove("//a:x"), CHECK), first_told(1, "//b:x", "//m:m"))

    def test_a_breach_is_told_ahead_of_a_circle(self):
        calls = [target("//a:x", ["//a:x"]), target("//b:y", ["//m:m"])]
        self.assertEqual(last(*calls, CHECK), first_told(1, "//b:y", "//m:m"))

    def test_the_first_label_of_the_least_circle(self):
        calls = [target("//a:x", ["//a:y"]), target("//a:y", ["//a:x"])]
        self.assertEqual(last(*calls, CHECK), [1, 4, 5] + text("//a:x"))
        self.assertEqual(last(*calls, target("//c:self", ["//c:self"]), CHECK), [1, 4, 8] + text("//c:self"))


if __name__ == "__main__":
    unittest.main()
