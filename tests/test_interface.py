"""The interface: what is handed in and given back."""

import unittest

from dependrules.targets import answers
from helper import (ABSENT, BREACHES, CHECK, CIRCLE, EXAMPLE, IN_CIRCLE, LABEL, LIST, MISSING, OPEN_EXAMPLE, above,
                    chain, group, idle, layer, layers, lines, may, order, raw_order, remove, run, sees, target, text,
                    wanted)

LABELS = ["//a:x", "//b:y", "//c:z"]


class Unchangeable(list):
    """A list that no call may change, not for a while either."""

    def refuse(self, *arguments, **more):
        raise AssertionError("what was handed in is changed")

    __setitem__ = __delitem__ = __iadd__ = __imul__ = refuse
    append = extend = insert = pop = remove = clear = sort = reverse = refuse


def flat(*calls):
    return [number for call in calls for number in call]


def all_asked():
    """Calls whose answers tell what the object of the example holds."""
    calls = [CHECK, BREACHES, CIRCLE, order(LABELS)]
    for label in LABELS:
        calls += [order([label]), wanted(label), idle(label), above(label), layer(label)]
    for a in LABELS:
        calls += [may(a, b) for b in LABELS if a != b] + [sees(a, b) for b in LABELS if a < b]
    return calls


class Interface(unittest.TestCase):
    def test_numbers_as_they_stand(self):
        calls = [0, 5] + text("//a:x") + [6, 5] + text("//a:x") + [7, 6] + text("public")
        calls += [2, 1, 103, 0, 3, 3, 2, 47, 47, 4, 5, 6, 1, 0, 1, 5] + text("//a:y")
        self.assertEqual(answers(calls), [
            1, 1, 1, 1, 1, 1, 8, 1, 4, 5] + text("//a:x") + [1, 0, 7, 1] + text("//a:x\n") + [1, -1, 1, -7])

    def test_breaches_as_numbers(self):
        calls = [0, 4] + text("//:x") + [5, 4] + text("//:y") + [0, 5, 4]
        told = text("//:x -> //:y: missing\n")
        self.assertEqual(answers(calls), [1, 1, 1 + len(told), 1] + told + [12, 1, 1, 4] + text("//:x") + [4]
                         + text("//:y"))

    def test_numbers_of_the_calls_from_7_on(self):
        x, y = [5] + text("//a:x"), [4] + text("//:y")
        before = [0] + x + [5] + y + [0] + [0] + y + [0, 4, 3] + text("//q") + [3, 4, 3] + text("//a")
        asked = [7, 6] + x + [7, 0] + [8] + x + y + [9] + x + y + [10] + x + [10] + y
        asked += [11] + y + [12] + y + [13] + y + [13, 0]
        self.assertEqual(answers(before + asked), [1, 1] * 3 + [12, 2] + text("//:y\n//a:x\n") + [1, 0] + [1, 5]
                         + [1, 0] + [1, 0] + [1, 8] + [3, 1] + text("a\n") + [5, 1] + text("//q\n")
                         + [7, 1] + text("//a:x\n") + [1, -1])

    def test_one_call(self):
        self.assertEqual(answers([4]), [1, 0])
        self.assertEqual(answers([3, 0]), [1, 0])
        self.assertEqual(answers([7, 0]), [1, 0])
        for number in (8, 9):
            self.assertEqual(answers([number, 0, 0]), [1, LABEL])
        for number in (10, 11, 12, 13):
            self.assertEqual(answers([number, 0]), [1, LABEL])

    def test_seventy_calls(self):
        self.assertEqual(answers([4, 5, 6, 3, 0] * 17 + [4, 5]), [1, 0] * 70)

    def test_what_is_handed_in_is_not_changed(self):
        for example in (EXAMPLE, OPEN_EXAMPLE):
            calls = Unchangeable(flat(*example, layers(["//c", "//..."]), *all_asked(), raw_order([1]),
                                      may("", "//a:x"), sees("//a:x", "//q:q"), remove("//a:x"), remove("//a:x")))
            kept = list(calls)
            answers(calls)
            self.assertEqual(calls, kept)

    def test_asking_changes_nothing(self):
        answered = [order(LABELS[:1]), order(), may("//c:z", "//a:x"), may("//a:x", "//q:q"), sees("//a:x", "//b:y"),
                    layer("//q:q"), wanted("//c:z"), idle("//c:z"), above("//c:z")]
        refused = [raw_order([1]), order(["//a"]), order(["//q:q"]), may("", ""), may("//q:q", "//a:x"),
                   sees("//a:x", ""), sees("//a:x", "//q:q"), layer("//a"), wanted("//a"), wanted("//q:q"), idle("//a"),
                   idle("//q:q"), above("//a"), above("//q:q")]
        for example in (EXAMPLE, OPEN_EXAMPLE, (*EXAMPLE, target("//b:y", ["//m:m"], ["//q", "public", "//q"]))):
            before = [*example, layers(["//c", "//..."])]
            expected = run(*before, *all_asked())[len(before):]
            for call in answered + refused:
                told = run(*before, call, *all_asked())
                self.assertEqual(told[len(before) + 1:], expected, call)
                self.assertTrue(call in answered or told[len(before)][0] < 0, call)
            told = run(*before, *answered, *refused, *all_asked())
            self.assertEqual(told[-len(expected):], expected)

    def test_nothing_is_kept_from_one_time_to_the_next(self):
        calls = flat(*EXAMPLE, layers(["//c", "//..."]), BREACHES)
        told = answers(calls)
        self.assertEqual(answers(flat(CHECK, BREACHES, CIRCLE, remove("//a:x"))), [1, 0, 1, 0, 1, 0, 1, ABSENT])
        self.assertEqual(run(order(LABELS), may("//a:x", "//b:y"), sees("//a:x", "//b:y"), layer("//a:x"),
                             wanted("//a:x"), idle("//a:x"), above("//a:x")),
                         [[ABSENT]] * 3 + [[8]] + [[ABSENT]] * 3)
        self.assertEqual(answers(calls), told)

    def test_what_is_given_back_is_its_own_list(self):
        calls = flat(*EXAMPLE, CIRCLE)
        told = answers(calls)
        told.clear()
        self.assertNotEqual(answers(calls), [])

    def test_plain_numbers_in_a_plain_list(self):
        told = answers(flat(*EXAMPLE, target("//a:x", ["//a:x"]), group("g"), layers(["//c", "//..."]), CHECK,
                            BREACHES, CIRCLE, *all_asked(), remove("//a:x"), remove("//a:x"), remove("")))
        self.assertIs(type(told), list)
        self.assertEqual({type(number) for number in told}, {int})

    def test_longest_rows(self):
        calls = [0, 2000] + [47] * 2000 + [5000] + [0] * 5000 + [5000] + [1, 97] * 2500 + CHECK
        self.assertEqual(answers(calls), [1, -1, 1, 0])
        calls = [7, 5000] + [0] * 5000 + [8, 2000] + [47] * 2000 + [2000] + [255] * 2000 + [13, 2000] + [0] * 2000
        self.assertEqual(answers(calls), [1, LABEL] * 3)

    def test_64_targets_in_a_chain(self):
        calls, labels = chain(64)
        told = run(*calls, order(labels[:1]), may(labels[63], labels[0]), sees(labels[0], labels[63]),
                   wanted(labels[63]), idle(labels[63]), above(labels[63]))
        self.assertEqual(told[64:], [lines(*reversed(labels)), [2], [1], [0], [0], lines(*labels[:63])])

    def test_calls_in_any_order(self):
        self.assertEqual(run(CIRCLE, layers(["//b", "//a"]), BREACHES, group("g", ["//b"]), target("//b:y", ["//a:x"]),
                             CHECK[:], target("//a:x", [], ["group:g"]), BREACHES, remove("//b:y"), CHECK),
                         [[0], [2], [0], [1], [1], [1, 1, 5] + text("//b:y") + [5] + text("//a:x"), [1],
                          [1] + text("//b:y -> //a:x: layer\n"), [0], [0]])

    def test_all_fourteen_in_any_order(self):
        told = run(above("//a:x"), target("//b:y", ["//a:x"], ["//c"]), order(["//b:y"]), may("//b:y", "//a:x"),
                   layer("//b:y"), layers(["//b", "//a"]), layer("//b:y"), target("//a:x", [], ["group:g", "//q"]),
                   sees("//b:y", "//a:x"), group("g", ["//b"]), sees("//b:y", "//a:x"), idle("//a:x"),
                   order(["//b:y"]), wanted("//a:x"), BREACHES, raw_order([1]), target("//a:x", ["//b:y"]),
                   order(["//a:x"]), CIRCLE, above("//a:x"), remove("//b:y"), CHECK, above("//a:x"))
        self.assertEqual(told, [
            [ABSENT], [1], [MISSING], [5], [8], [2], [0], [1], [0], [1], [1], lines("//q"), lines("//a:x", "//b:y"),
            lines("b"), lines("//b:y -> //a:x: layer"), [LIST], [0], [IN_CIRCLE], lines("//a:x", "//b:y"),
            lines("//b:y"), [0], [1, 1, 5] + text("//a:x") + [5] + text("//b:y"), [0]])


if __name__ == "__main__":
    unittest.main()
