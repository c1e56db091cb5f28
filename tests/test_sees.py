"""Point 10: sees."""

import unittest

from helper import ABSENT, BAD_LABELS, EXAMPLE, LABEL, group, last, layers, remove, run, sees, target


class Sees(unittest.TestCase):
    def compare(self, a, b, specs, expected, *before):
        calls = [*before, target(a), target(b, [], specs)]
        self.assertEqual(last(*calls, sees(a, b)), [1 if expected else 0], (a, b, specs))

    def test_example(self):
        pairs = {("//a:x", "//b:y"): 1, ("//a:x", "//c:z"): 0, ("//b:y", "//c:z"): 1, ("//c:z", "//a:x"): 1,
                 ("//b:y", "//a:x"): 0, ("//c:z", "//b:y"): 0}
        for (a, b), expected in pairs.items():
            self.assertEqual(last(*EXAMPLE, sees(a, b)), [expected], (a, b))

    def test_within_one_package(self):
        for package in ["", "a", "a/b", "..."]:
            self.compare("//%s:x" % package, "//%s:y" % package, [], True)
            self.compare("//%s:x" % package, "//%s:y" % package, ["//q", "group:none"], True)

    def test_itself(self):
        self.assertEqual(last(target("//a:x"), sees("//a:x", "//a:x")), [1])
        self.assertEqual(last(target("//a:x", [], ["//b"]), sees("//a:x", "//a:x")), [1])

    def test_no_specs(self):
        self.compare("//a:x", "//b:y", [], False)
        self.compare("//a/b:x", "//a:y", [], False)
        self.compare("//a:x", "//a/b:y", [], False)
        self.compare("//:x", "//a:y", [], False)
        self.compare("//a:x", "//:y", [], False)

    def test_public_and_everywhere(self):
        for spec in ["public", "//..."]:
            for package in ["", "a", "a/b", "...", "public"]:
                self.compare("//%s:x" % package, "//q:y", [spec], True)

    def test_one_package(self):
        for package, spec, expected in [("a", "//a", True), ("a/b", "//a", False), ("", "//", True), ("a", "//", False),
                                        ("", "//a", False), ("a", "//a/b", False), ("ab", "//a", False),
                                        ("a/b", "//a/b", True), ("A", "//a", False), ("public", "//public", True)]:
            self.compare("//%s:x" % package, "//q:y", [spec], expected)

    def test_packages_within_one(self):
        for package, spec, expected in [("a", "//a/...", True), ("a/b", "//a/...", True), ("a/b/c", "//a/...", True),
                                        ("ab", "//a/...", False), ("a.b", "//a/...", False), ("", "//a/...", False),
                                        ("b/a", "//a/...", False), ("a/...", "//a/...", True),
                                        ("...", "//.../...", True), (".../a", "//.../...", True),
                                        ("a", "//.../...", False), ("a", "//a/b/...", False)]:
            self.compare("//%s:x" % package, "//q:y", [spec], expected)

    def test_groups(self):
        groups = [group("g", ["//a", "//b/..."]), group("h"), group("all", ["public"])]
        for package, name, expected in [("a", "g", True), ("a/b", "g", False), ("b/c", "g", True), ("c", "g", False),
                                        ("a", "h", False), ("", "all", True), ("a", "none", False), ("a", "G", False)]:
            self.compare("//%s:x" % package, "//q:y", ["group:" + name], expected, *groups)

    def test_one_of_the_specs_is_enough(self):
        for place in range(8):
            specs = ["group:none"] * 8
            specs[place] = "//a"
            self.compare("//a:x", "//b:y", specs, True)

    def test_the_specs_of_a_do_not_matter(self):
        calls = [target("//a:x", [], ["public", "//b"]), target("//b:y", [], ["//q"])]
        self.assertEqual(last(*calls, sees("//a:x", "//b:y")), [0])
        self.assertEqual(last(*calls, sees("//b:y", "//a:x")), [1])

    def test_dependencies_and_layers_do_not_matter(self):
        calls = [layers(["//a", "//b"]), target("//a:x", ["//c:z"]), target("//b:y", [], ["//a"]), target("//c:z")]
        self.assertEqual(last(*calls, sees("//a:x", "//b:y")), [1])
        self.assertEqual(last(*calls, sees("//a:x", "//c:z")), [0])


class Refusals(unittest.TestCase):
    def test_labels(self):
        for label in BAD_LABELS:
            for a, b in [(label, "//a:x"), ("//a:x", label), (label, label), ("//none:x", label), (label, "//none:x")]:
                self.assertEqual(last(target("//a:x"), sees(a, b)), [LABEL], (a, b))

    def test_absent(self):
        self.assertEqual(run(sees("//a:x", "//a:x")), [[ABSENT]])
        for a, b in [("//a:x", "//a:y"), ("//a:y", "//a:x"), ("//a:y", "//a:z"), ("//a:y", "//a:y")]:
            self.assertEqual(last(target("//a:x", ["//a:y"]), sees(a, b)), [ABSENT], (a, b))
        calls = [target("//a:x"), target("//a:y"), remove("//a:y")]
        self.assertEqual(last(*calls, sees("//a:x", "//a:y")), [ABSENT])


if __name__ == "__main__":
    unittest.main()
