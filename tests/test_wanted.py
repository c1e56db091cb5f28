"""Point 12: wanted."""

import unittest

from helper import ABSENT, BAD_LABELS, EXAMPLE, LABEL, OPEN_EXAMPLE, chain, last, lines, remove, run, target, wanted


def dependers(labels, dependency="//own:y"):
    return [target(label, [dependency]) for label in labels]


class Wanted(unittest.TestCase):
    def compare(self, labels, *packages):
        self.assertEqual(last(target("//own:y"), *dependers(labels), wanted("//own:y")), lines(*packages), labels)

    def test_example(self):
        for example in (EXAMPLE, OPEN_EXAMPLE):
            self.assertEqual(last(*example, wanted("//c:z")), lines("a", "b"))
            self.assertEqual(last(*example, wanted("//b:y")), lines("a"))
        self.assertEqual(last(*EXAMPLE, wanted("//a:x")), lines("c"))
        self.assertEqual(last(*OPEN_EXAMPLE, wanted("//a:x")), [0])

    def test_none(self):
        self.compare([])
        self.assertEqual(last(target("//a:x"), target("//b:y", ["//a:z"]), wanted("//a:x")), [0])

    def test_the_empty_package_is_an_empty_line(self):
        self.assertEqual(last(target("//own:y"), *dependers(["//:x"]), wanted("//own:y")), [1, 10])
        self.compare(["//a:x", "//:x"], "", "a")

    def test_several_targets_of_one_package(self):
        self.compare(["//a:x", "//b:x", "//a:y", "//a:x/y", "//:x", "//:y"], "", "a", "b")

    def test_not_its_own_package(self):
        self.compare(["//own:x", "//own:z"])
        self.compare(["//own:x", "//a:x", "//own/a:x"], "a", "own/a")
        self.assertEqual(last(target("//a:x", ["//a:x"]), wanted("//a:x")), [0])
        calls = [target("//:y"), *dependers(["//:x", "//a:x"], "//:y")]
        self.assertEqual(last(*calls, wanted("//:y")), lines("a"))

    def test_in_the_order_of_texts(self):
        # The order of labels is another one: "//a-:x" is ahead of "//a:x", but the package "a" of "a-".
        packages = ["", "-", "1", "10", "9", "A", "a", "a-", "a.b", "a/b", "a/b/c", "a0", "ab", "b"]
        self.compare(["//%s:x" % package for package in packages[5:] + packages[:5]], *packages)

    def test_only_those_that_depend_on_it_themselves(self):
        calls = [target("//a:x", ["//b:y"]), target("//b:y", ["//c:z"]), target("//c:z")]
        self.assertEqual(last(*calls, wanted("//c:z")), lines("b"))

    def test_what_it_is_shown_to_does_not_matter(self):
        for specs in [[], ["public"], ["//q"], ["//a"]]:
            calls = [target("//own:y", [], specs), *dependers(["//a:x", "//b:x"])]
            self.assertEqual(last(*calls, wanted("//own:y")), lines("a", "b"))

    def test_the_dependencies_of_the_moment(self):
        calls = [target("//own:y"), *dependers(["//a:x", "//b:x"])]
        self.assertEqual(last(*calls, remove("//a:x"), wanted("//own:y")), lines("b"))
        self.assertEqual(last(*calls, target("//b:x"), wanted("//own:y")), lines("a"))
        self.assertEqual(last(*calls, remove("//own:y"), target("//own:y"), wanted("//own:y")), lines("a", "b"))

    def test_the_most_there_can_be(self):
        packages = ["p%02d" % number for number in range(63)]
        self.compare(["//%s:x" % package for package in packages], *packages)

    def test_a_chain(self):
        calls, labels = chain(64)
        self.assertEqual(last(*calls, wanted(labels[63])), [0])

    def test_labels(self):
        for label in BAD_LABELS:
            self.assertEqual(last(target("//a:x"), wanted(label)), [LABEL], label)

    def test_absent(self):
        self.assertEqual(run(wanted("//a:x")), [[ABSENT]])
        self.assertEqual(last(target("//a:x", ["//b:y"]), wanted("//b:y")), [ABSENT])
        self.assertEqual(last(target("//a:x"), remove("//a:x"), wanted("//a:x")), [ABSENT])


if __name__ == "__main__":
    unittest.main()
