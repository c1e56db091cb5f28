"""The interface: what is handed in and given back."""

import unittest

from dependrules.targets import answers
from helper import ABSENT, BREACHES, CHECK, CIRCLE, EXAMPLE, group, layers, remove, run, target, text


def flat(*calls):
    return [number for call in calls for number in call]


class Interface(unittest.TestCase):
    def test_numbers_as_they_stand(self):
        calls = [0, 5] + text("//a:x") + [6, 5] + text("//a:x") + [7, 6] + text("public")
        calls += [2, 1, 103, 0, 3, 3, 2, 47, 47, 4, 5, 6, 1, 0, 1, 5] + text("//a:y")
        self.assertEqual(answers(calls), [
            1, 1, 1, 1, 1, 1, 8, 1, 4, 5] + text("//a:x") + [1, 0, 7, 1] + text("//a:x\n") + [1, -1, 1, -7])

    def test_breaches_as_numbers(self):
        calls = [0, 4] + text("//:x") + [5, 4] + text("//:y") + [0, 5, 4]
        told = text("//:x -> //:y: missing\n")
        self.assertEqual(answers(calls), [1, 1, 1 + len(told), 1] + told + [12, 1, 1, 4] + text("//:x") + [4]
                         + text("//:y"))

    def test_one_call(self):
        self.assertEqual(answers([4]), [1, 0])
        self.assertEqual(answers([3, 0]), [1, 0])

    def test_seventy_calls(self):
        self.assertEqual(answers([4, 5, 6, 3, 0] * 17 + [4, 5]), [1, 0] * 70)

    def test_what_is_handed_in_is_not_changed(self):
        calls = flat(*EXAMPLE, layers(["//c", "//..."]), CHECK, BREACHES, CIRCLE, remove("//a:x"), remove("//a:x"))
        kept = list(calls)
        answers(calls)
        self.assertEqual(calls, kept)

    def test_nothing_is_kept_from_one_time_to_the_next(self):
        calls = flat(*EXAMPLE, layers(["//c", "//..."]), BREACHES)
        told = answers(calls)
        self.assertEqual(answers(flat(CHECK, BREACHES, CIRCLE, remove("//a:x"))), [1, 0, 1, 0, 1, 0, 1, ABSENT])
        self.assertEqual(answers(calls), told)

    def test_what_is_given_back_is_its_own_list(self):
        calls = flat(*EXAMPLE, CIRCLE)
        told = answers(calls)
        told.clear()
        self.assertNotEqual(answers(calls), [])

    def test_plain_numbers_in_a_plain_list(self):
        told = answers(flat(*EXAMPLE, target("//a:x", ["//a:x"]), group("g"), layers(["//c", "//..."]), CHECK,
                            BREACHES, CIRCLE, remove("//a:x"), remove("//a:x"), remove("")))
        self.assertIs(type(told), list)
        self.assertEqual({type(number) for number in told}, {int})

    def test_longest_rows(self):
        calls = [0, 2000] + [47] * 2000 + [5000] + [0] * 5000 + [5000] + [1, 97] * 2500 + CHECK
        self.assertEqual(answers(calls), [1, -1, 1, 0])

    def test_calls_in_any_order(self):
        self.assertEqual(run(CIRCLE, layers(["//b", "//a"]), BREACHES, group("g", ["//b"]), target("//b:y", ["//a:x"]),
                             CHECK[:], target("//a:x", [], ["group:g"]), BREACHES, remove("//b:y"), CHECK),
                         [[0], [2], [0], [1], [1], [1, 1, 5] + text("//b:y") + [5] + text("//a:x"), [1],
                          [1] + text("//b:y -> //a:x: layer\n"), [0], [0]])


if __name__ == "__main__":
    unittest.main()
