"""Point 1: target, and with it labels, specs and lists of texts."""

import unittest

from helper import (BREACHES, CIRCLE, EXAMPLE, FULL, LABEL, LIMIT, LIST, SPEC, TWICE, last, lines, listed,
                    raw_target, remove, run, subsets, target)

PART_32 = "p" * 32
PATH_8_PARTS = "a/b/c/d/e/f/g/h"
PATH_96_BYTES = "/".join(["a" * 32, "b" * 32, "c" * 30])

GOOD_PATHS = [
    "a", "z", "A", "Z", "0", "9", "_", "-", "...", "....", ".a", "a.", "a..", "..a", "a.b_c-D9", PART_32,
    PATH_8_PARTS, PATH_96_BYTES, "a/.../b", ".../...",
]
BAD_PATHS = [
    "/", "a/", "/a", "a//b", ".", "..", "a/.", "./a", "a/../b", "../a", PART_32 + "p", PATH_8_PARTS + "/i",
    PATH_96_BYTES + "c", "a:b", "a b", "a\n", "`", "{", "@", "[", ",", "^", "+", "a*", "\x00", "\xff", "\xe9",
]


def all_64():
    return [target("//p:t%d" % number) for number in range(64)]


def faulty(faults, many_specs=False, list_at=1):
    """A call of target with these faults and no other ones."""
    label = "//p:new"
    dependencies = ["//d:%d" % number for number in range(17 if "limit" in faults and not many_specs else 2)]
    specs = ["public"] * (9 if "limit" in faults and many_specs else 1)
    if "label" in faults:
        label = "//p"
    if "dependency" in faults:
        dependencies.append("//d")
    if "twice" in faults:
        dependencies.append("//d:0")
    if "spec" in faults:
        specs.append("private")
    lists = [listed(dependencies), listed(specs)]
    if "list" in faults:
        lists[list_at] += [2, 97]
    return raw_target(label, *lists)


class Answers(unittest.TestCase):
    def test_new_and_told_again(self):
        self.assertEqual(run(target("//a:x"), target("//a:x"), target("//a:y"), target("//a:x")), [[1], [0], [1], [0]])

    def test_new_again_when_it_was_removed(self):
        self.assertEqual(run(target("//a:x"), remove("//a:x"), target("//a:x")), [[1], [0], [1]])

    def test_what_is_told_again_holds_alone(self):
        calls = [target("//a:x", ["//a:x", "//b:y"]), target("//b:y"), target("//a:x", ["//c:z"], ["public"])]
        self.assertEqual(last(*calls, BREACHES), lines("//a:x -> //c:z: missing"))
        self.assertEqual(last(*calls, CIRCLE), [0])
        calls = [target("//a:x", ["//b:y"]), target("//b:y", [], ["//a"]), target("//b:y", [], ["//c"])]
        self.assertEqual(last(*calls, BREACHES), lines("//a:x -> //b:y: hidden"))

    def test_dependencies_need_not_be_there(self):
        self.assertEqual(run(target("//a:x", ["//b:y"], ["group:none"])), [[1]])

    def test_specs_may_stand_twice(self):
        self.assertEqual(run(target("//a:x", [], ["//b", "//b", "public", "public"])), [[1]])

    def test_example(self):
        self.assertEqual(run(*EXAMPLE), [[1], [1], [1], [1]])


class Labels(unittest.TestCase):
    def told(self, label):
        """The label as the target's own, and as a dependency."""
        own = last(target(label))
        self.assertEqual(last(target("//own:own", [label])), own, label)
        return own

    def test_good(self):
        for path in GOOD_PATHS:
            self.assertEqual(self.told("//%s:n" % path), [1], path)
            self.assertEqual(self.told("//p:%s" % path), [1], path)
        self.assertEqual(self.told("//:n"), [1])
        self.assertEqual(self.told("//%s:%s" % (PATH_96_BYTES, PATH_96_BYTES)), [1])

    def test_bad_paths(self):
        for path in BAD_PATHS:
            self.assertEqual(self.told("//%s:n" % path), [LABEL], path)
            self.assertEqual(self.told("//p:%s" % path), [LABEL], path)

    def test_bad_forms(self):
        for label in ["", "/", "//", ":", "//:", "//p", "//p:", "p:n", "/p:n", "///p:n", ":n", "x//p:n", " //p:n",
                      "//p:n ", "//p::n", "//p:n:m", "//p/:n", "\\\\p:n", "public", "a" * 2000, "//p:" + "a/" * 900]:
            self.assertEqual(self.told(label), [LABEL], label)

    def test_every_byte(self):
        allowed = "abcdefghijklmnopqrstuvwxyzABCDEFGHIJKLMNOPQRSTUVWXYZ0123456789._-"
        for byte in range(256):
            sign = chr(byte)
            name_is_good = sign in allowed
            self.assertEqual(self.told("//p:x" + sign), [1] if name_is_good else [LABEL], byte)
            self.assertEqual(self.told("//x%sx:n" % sign), [1] if name_is_good or sign == "/" else [LABEL], byte)


class Specs(unittest.TestCase):
    def told(self, spec):
        return last(target("//a:x", [], [spec]))

    def test_good(self):
        for spec in ["public", "//", "//...", "group:g", "group:" + "g" * 32, "group:aZ09_-"]:
            self.assertEqual(self.told(spec), [1], spec)
        for path in GOOD_PATHS:
            self.assertEqual(self.told("//" + path), [1], path)
            self.assertEqual(self.told("//%s/..." % path), [1], path)

    def test_bad(self):
        for spec in ["", "/", "Public", "public ", "publi", "publics", "/...", "...", "///...", "////...", "//a//...",
                     "//a/....:n", "//a:x", "group:", "group", "group:" + "g" * 33, "group:a.b", "group:a/b",
                     "group:a b", "group:group:a", "Group:a", "//./...", "//../...", "a", "a/...", "/a", "//a/",
                     "//a/.../"]:
            self.assertEqual(self.told(spec), [SPEC], spec)
        for path in BAD_PATHS:
            self.assertEqual(self.told("//" + path), [SPEC], path)
            self.assertEqual(self.told("//%s/..." % path), [SPEC], path)

    def test_every_byte_of_a_group_name(self):
        allowed = "abcdefghijklmnopqrstuvwxyzABCDEFGHIJKLMNOPQRSTUVWXYZ0123456789_-"
        for byte in range(256):
            self.assertEqual(self.told("group:x" + chr(byte)), [1] if chr(byte) in allowed else [SPEC], byte)


class Limits(unittest.TestCase):
    def test_dependencies(self):
        labels = ["//d:%d" % number for number in range(17)]
        self.assertEqual(last(target("//a:x", labels[:16])), [1])
        self.assertEqual(last(target("//a:x", labels)), [LIMIT])

    def test_specs(self):
        self.assertEqual(last(target("//a:x", [], ["public"] * 8)), [1])
        self.assertEqual(last(target("//a:x", [], ["public"] * 9)), [LIMIT])

    def test_very_many_empty_texts(self):
        self.assertEqual(last(raw_target("//a:x", [0] * 5000, [])), [LIMIT])
        self.assertEqual(last(raw_target("//a:x", [], [0] * 5000)), [LIMIT])

    def test_targets(self):
        told = run(*all_64(), target("//p:new"), target("//p:t9"), remove("//p:t9"), target("//p:new"),
                   target("//p:t9"))
        self.assertEqual(told, [[1]] * 64 + [[FULL], [0], [0], [1], [FULL]])


class ListsOfTexts(unittest.TestCase):
    def test_not_lists(self):
        for numbers in [[1], [2, 97], [-1], [-1, 97], [0, -1], [0, 0, 1], [1, 256], [1, -1], [2, 97, 1000],
                        [10 ** 18], [-10 ** 18], [1, 10 ** 18], [1, -10 ** 18], listed(["//b:y"])[:-1],
                        listed(["//b:y"]) + [3], [4999] + [97] * 4998, [-2, 97, 97]]:
            self.assertEqual(last(raw_target("//a:x", numbers, [])), [LIST], numbers)
            self.assertEqual(last(raw_target("//a:x", [], numbers)), [LIST], numbers)

    def test_lists_of_texts_that_are_neither_labels_nor_specs(self):
        for numbers in [[0], [1, 0], [1, 255], [2, 0, 255], [3, 97, 97, 97, 0], [4999] + [97] * 4999]:
            self.assertEqual(last(raw_target("//a:x", numbers, [])), [LABEL], numbers)
            self.assertEqual(last(raw_target("//a:x", [], numbers)), [SPEC], numbers)

    def test_empty_lists(self):
        self.assertEqual(last(raw_target("//a:x", [], [])), [1])


class Refusals(unittest.TestCase):
    NUMBERS = {"label": LABEL, "list": LIST, "limit": LIMIT, "dependency": LABEL, "twice": TWICE, "spec": SPEC,
               "full": FULL}

    def test_the_first_of_those_that_hold(self):
        for faults in subsets(list(self.NUMBERS)):
            before = all_64() if "full" in faults else []
            for many_specs in (False, True):
                for list_at in (0, 1):
                    told = last(*before, faulty(faults, many_specs, list_at))
                    self.assertEqual(told, [self.NUMBERS[faults[0]]], (faults, many_specs, list_at))

    def test_no_fault(self):
        self.assertEqual(last(faulty([])), [1])

    def test_twice_wherever_it_stands(self):
        self.assertEqual(last(target("//a:x", ["//b:y", "//c:z", "//b:y"])), [TWICE])
        self.assertEqual(last(target("//a:x", ["//a:x", "//a:x"])), [TWICE])

    def test_a_bad_dependency_behind_a_doubled_one(self):
        self.assertEqual(last(target("//a:x", ["//b:y", "//b:y", "//c"])), [LABEL])

    def test_all_stays_as_it_was(self):
        before = [target("//a:x", ["//b:y", "//a:x"]), target("//b:y", [], ["//c"])]
        spoilt = [raw_target("//a:x", [1], []), raw_target("//a:x", [], [1]),
                  target("//a:x", ["//d:%d" % number for number in range(17)]), target("//a:x", [], ["public"] * 9),
                  target("//a:x", ["//d"]), target("//a:x", ["//d:1", "//d:1"]), target("//a:x", [], ["private"]),
                  target("//b:y", [], ["public", "private"]), target("//n", ["//d:1"]),
                  target("//n:n", ["//d:1"], ["private"])]
        for call in spoilt:
            told = run(*before, call, BREACHES, CIRCLE)
            self.assertLess(told[2][0], 0)
            self.assertEqual(told[3:], [lines("//a:x -> //b:y: hidden"), lines("//a:x")])

    def test_a_target_too_many_is_not_there(self):
        told = run(*all_64(), target("//p:u", ["//p:u"]), CIRCLE, BREACHES)
        self.assertEqual(told[64:], [[FULL], [0], [0]])


if __name__ == "__main__":
    unittest.main()
