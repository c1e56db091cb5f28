"""Calls written with texts, and their answers one by one."""

from dependrules.targets import answers

LABEL, LIST, LIMIT, TWICE, SPEC, FULL, ABSENT, IN_CIRCLE, MISSING, NAME = range(-1, -11, -1)

BAD_LABELS = ["", "/", "//", ":", "//:", "//a", "//a:", "a:x", "/a:x", "///a:x", "//a:x:y", "//a:..", "//./a:x",
              "//a/:x", "//a:x\n", "//a:x ", "//a:\xff", "public", "//...", "//a:" + "x" * 33, "x" * 2000]
NOT_LISTS = [[1], [2, 97], [-1], [-1, 97], [0, -5], [0, 0, 1], [1, 256], [1, -1], [5, 47, 47, 97, 58], [10 ** 18],
             [-10 ** 18], [1, 10 ** 18], [5, 47, 47, 97, 58, 120, 1], [4999] + [97] * 4998]

CHECK = [4]
BREACHES = [5]
CIRCLE = [6]


def text(words):
    return list(words.encode("latin-1"))


def listed(texts):
    numbers = []
    for one in texts:
        numbers += [len(one)] + text(one)
    return numbers


def row(numbers):
    return [len(numbers)] + list(numbers)


def raw_target(label, dependencies, specs):
    """A target whose two lists are told number by number."""
    return [0] + row(text(label)) + row(dependencies) + row(specs)


def target(label, dependencies=(), specs=()):
    return raw_target(label, listed(dependencies), listed(specs))


def remove(label):
    return [1] + row(text(label))


def raw_group(name, specs):
    return [2] + row(text(name)) + row(specs)


def group(name, specs=()):
    return raw_group(name, listed(specs))


def raw_layers(specs):
    return [3] + row(specs)


def layers(specs=()):
    return raw_layers(listed(specs))


def raw_order(goals):
    return [7] + row(goals)


def order(goals=()):
    return raw_order(listed(goals))


def may(a, b):
    return [8] + row(text(a)) + row(text(b))


def sees(a, b):
    return [9] + row(text(a)) + row(text(b))


def layer(label):
    return [10] + row(text(label))


def wanted(label):
    return [11] + row(text(label))


def idle(label):
    return [12] + row(text(label))


def above(label):
    return [13] + row(text(label))


def chain(count):
    """Calls for so many targets of one package, each of which depends on the next one, and their labels."""
    labels = ["//p:%02d" % number for number in range(count)]
    return [target(label, labels[place + 1:place + 2]) for place, label in enumerate(labels)], labels


def run(*calls):
    """The answers, a list of numbers for each call."""
    numbers = answers([number for call in calls for number in call])
    told = []
    while numbers:
        told.append(numbers[1:1 + numbers[0]])
        assert len(told[-1]) == numbers[0] > 0
        numbers = numbers[1 + numbers[0]:]
    assert len(told) == len(calls)
    return told


def last(*calls):
    return run(*calls)[-1]


def lines(*texts):
    """The answer of so many texts in lines."""
    return [len(texts)] + text("".join(one + "\n" for one in texts))


def first_told(number, a, b):
    """What check answers for a first breach."""
    return [1, number, len(a)] + text(a) + [len(b)] + text(b)


def subsets(names):
    """All choices of the names but the empty one, each in the names' order."""
    for bits in range(1, 1 << len(names)):
        yield [name for place, name in enumerate(names) if bits >> place & 1]


def numbers_from(seed):
    """Ever the same numbers for the same seed, without end, each from 0 to 32767."""
    while True:
        seed = (seed * 1103515245 + 12345) % (1 << 31)
        yield seed >> 16


EXAMPLE = (
    target("//a:x", ["//b:y", "//c:z"], ["group:g"]),
    target("//b:y", ["//c:z"], ["//a"]),
    target("//c:z", ["//a:x"], ["//b/...", "//q"]),
    group("g", ["//c"]),
)

# The example without the dependency that closes its circles.
OPEN_EXAMPLE = EXAMPLE + (target("//c:z", [], ["//b/...", "//q"]),)
