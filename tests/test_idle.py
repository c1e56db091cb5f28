"""Point 13: idle."""

import unittest

from helper import ABSENT, BAD_LABELS, EXAMPLE, LABEL, OPEN_EXAMPLE, group, idle, last, lines, remove, run, target


def shown(specs, packages):
    """Calls for //own:y that is shown to the specs and on which a target of each package depends."""
    return [target("//own:y", [], specs)] + [target("//%s:x" % package, ["//own:y"]) for package in packages]


class Idle(unittest.TestCase):
    def compare(self, specs, packages, *expected):
        self.assertEqual(last(*shown(specs, packages), idle("//own:y")), lines(*expected), (specs, packages))

    def test_example(self):
        for example in (EXAMPLE, OPEN_EXAMPLE):
            self.assertEqual(last(*example, idle("//c:z")), lines("//q"))
            self.assertEqual(last(*example, idle("//b:y")), [0])
        self.assertEqual(last(*EXAMPLE, idle("//a:x")), [0])
        self.assertEqual(last(*OPEN_EXAMPLE, idle("//a:x")), lines("group:g"))

    def test_no_specs(self):
        self.compare([], [])
        self.compare([], ["a"])

    def test_all_where_wanted_tells_none(self):
        specs = ["public", "//...", "//", "//own", "//own/...", "group:g", "//a"]
        self.compare(specs, [], *specs)
        self.assertEqual(last(group("g", ["public"]), *shown(specs, []), idle("//own:y")), lines(*specs))

    def test_its_own_package_does_not_count(self):
        self.compare(["//own", "public", "//own/..."], ["own"], "//own", "public", "//own/...")
        self.compare(["//own", "public", "//own/..."], ["own", "own/a"], "//own")
        self.assertEqual(last(target("//a:x", ["//a:x"], ["public", "//a"]), idle("//a:x")), lines("public", "//a"))

    def test_each_sort_of_spec(self):
        for spec, used, unused in [("//", "", "a"), ("//a", "a", "a/b"), ("//a/...", "a/b", "ab"),
                                   ("//a/...", "a", ""), ("//a/b", "a/b", "a"), ("//.../...", "...", "a")]:
            self.compare([spec], [used])
            self.compare([spec], [unused], spec)
            self.compare([spec], [unused, used])
        for spec in ["public", "//..."]:
            for package in ["", "a", "a/b"]:
                self.compare([spec], [package])

    def test_specs_that_stand_twice(self):
        self.compare(["//q", "//a", "//q", "//a"], ["a"], "//q", "//q")
        self.compare(["//q"] * 8, ["a"], *["//q"] * 8)
        self.compare(["public", "public"], ["a"])

    def test_specs_of_groups(self):
        calls = shown(["group:g", "group:h", "group:none", "//q"], ["a", "b"])
        self.assertEqual(last(*calls, idle("//own:y")), lines("group:g", "group:h", "group:none", "//q"))
        calls += [group("g", ["//q", "//b"]), group("h", ["//q", "//a/b"])]
        self.assertEqual(last(*calls, idle("//own:y")), lines("group:h", "group:none", "//q"))
        self.assertEqual(last(*calls, group("g"), idle("//own:y")), lines("group:g", "group:h", "group:none", "//q"))
        self.assertEqual(last(*calls, group("h", ["public"]), idle("//own:y")), lines("group:none", "//q"))

    def test_in_their_own_order(self):
        self.compare(["//z", "//b", "public", "//m", "//c/...", "//a"], ["b"], "//z", "//m", "//c/...", "//a")

    def test_a_spec_is_not_idle_because_another_one_is_enough(self):
        self.compare(["public", "//a", "//a/...", "//..."], ["a"])

    def test_only_those_that_depend_on_it_themselves(self):
        calls = [target("//a:x", ["//b:y"]), target("//b:y", ["//c:z"]), target("//c:z", [], ["//a", "//b"])]
        self.assertEqual(last(*calls, idle("//c:z")), lines("//a"))

    def test_the_dependencies_of_the_moment(self):
        calls = shown(["//a", "//b"], ["a", "b"])
        self.assertEqual(last(*calls, remove("//a:x"), idle("//own:y")), lines("//a"))
        self.assertEqual(last(*calls, target("//b:x"), idle("//own:y")), lines("//b"))

    def test_labels(self):
        for label in BAD_LABELS:
            self.assertEqual(last(target("//a:x"), idle(label)), [LABEL], label)

    def test_absent(self):
        self.assertEqual(run(idle("//a:x")), [[ABSENT]])
        self.assertEqual(last(target("//a:x", ["//b:y"]), idle("//b:y")), [ABSENT])
        self.assertEqual(last(target("//a:x"), remove("//a:x"), idle("//a:x")), [ABSENT])


if __name__ == "__main__":
    unittest.main()
