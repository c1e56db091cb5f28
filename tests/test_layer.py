"""Point 11: layer."""

import unittest

from helper import BAD_LABELS, EXAMPLE, LABEL, last, layer, layers, run, target

NONE = 8


class Layer(unittest.TestCase):
    def compare(self, specs, label, expected):
        self.assertEqual(last(layers(specs), layer(label)), [expected], (specs, label))

    def test_example(self):
        for label, expected in [("//c:z", 0), ("//a:x", 1), ("//b:y", 1)]:
            self.assertEqual(last(*EXAMPLE, layers(["//c", "//..."]), layer(label)), [expected])

    def test_no_layers(self):
        self.assertEqual(run(layer("//a:x")), [[NONE]])
        self.assertEqual(last(target("//a:x"), layer("//a:x")), [NONE])
        self.compare([], "//a:x", NONE)
        self.assertEqual(last(layers(["public"]), layers(), layer("//a:x")), [NONE])

    def test_no_layer_admits_it(self):
        self.compare(["//b", "//a/b", "//ab/..."], "//a:x", NONE)
        self.compare(["//a/..."], "//:x", NONE)
        self.compare(["//"], "//a:x", NONE)

    def test_a_target_need_not_be_there(self):
        self.compare(["//b", "//a"], "//a:x", 1)
        self.assertEqual(last(layers(["//b", "//a"]), target("//a:x"), layer("//a:x")), [1])

    def test_all_eight(self):
        specs = ["//l%d" % number for number in range(8)]
        for number in range(8):
            self.compare(specs, "//l%d:x" % number, number)
        self.compare(specs, "//l8:x", NONE)
        self.compare(["//q"] * 7 + ["//..."], "//a:x", 7)

    def test_the_first_that_admits_it(self):
        self.compare(["//a", "//a"], "//a:x", 0)
        self.compare(["//a/b", "//a/...", "public"], "//a/b:x", 0)
        self.compare(["//a/b", "//a/...", "public"], "//a/b/c:x", 1)
        self.compare(["//a/b", "//a/...", "public"], "//b:x", 2)
        self.compare(["public", "//a"], "//a:x", 0)

    def test_of_the_package_not_of_the_name(self):
        self.compare(["//a/b", "//a"], "//a:b", 1)
        self.compare(["//x", "//"], "//:x", 1)

    def test_the_layers_of_the_moment(self):
        told = run(layers(["//a"]), layer("//a:x"), layers(["//b", "//a"]), layer("//a:x"), layers(["private"]),
                   layer("//a:x"), layers(), layer("//a:x"))
        self.assertEqual(told[1::2], [[0], [1], [1], [NONE]])

    def test_labels(self):
        for label in BAD_LABELS:
            self.assertEqual(last(layers(["public"]), layer(label)), [LABEL], label)


if __name__ == "__main__":
    unittest.main()
