"""What several tests share: how refusals and wrong arguments are looked at, and how plain models are compared."""

import copy

from allgivenback.basics import StoreError
from allgivenback.ground import ground_of

HUGE = 10 ** 700

# Values of every other kind than an integer.
NO_INTEGERS = (True, False, None, "", "1", (), (1,), [], [1], {}, {1: 1}, 1.0, b"1", {1}, object())

# Values of every kind, for the judges.
ODD_VALUES = NO_INTEGERS + (
    -1, 0, 1, HUGE, -HUGE, (0, 1), [0, 1], ((),), (None, None), ("held",), ((1, "held", ()),), int, len, 2j,
    frozenset(), range(3), float("nan"), float("inf"), bytearray(b"1"), NotImplemented, Ellipsis, StoreError("x"),
)


def told_by(call, *values, **named):
    """What the refusal of a call tells, or None if the call refuses nothing."""
    try:
        call(*values, **named)
    except StoreError as error:
        return error.told
    return None


def no_integer_in(low, high):
    """Values that are not integers from low to high."""
    return (low - 1, high + 1, HUGE, -HUGE) + NO_INTEGERS


def no_align_upto(most):
    """Values that are not alignments up to the given one."""
    return (3, 0, -1, -2, most + 1, most * 2, most - 1 if most > 2 else 5, HUGE, 2 ** 2000) + NO_INTEGERS


def check_wrong(test, call, good, bad, named=()):
    """Checks that each wrong argument is told, alone and with wrong ones behind it.

    good holds the right arguments in the order of the signature, bad the wrong values of those that are checked,
    and named the arguments that are passed by name. A right integer is also tried as a float.
    """
    for number, parameter in enumerate(good):
        later = {name: bad[name][0] for name in list(good)[number + 1:] if name in bad}
        floats = (float(good[parameter]),) if type(good[parameter]) is int else ()
        for value in tuple(bad[parameter]) + floats if parameter in bad else ():
            for others in ({}, later):
                values = {**good, parameter: value, **others}
                rows = [values[name] for name in good if name not in named]
                words = {name: values[name] for name in named}
                told = told_by(call, *rows, **words)
                test.assertEqual(told, ("BadValue", (parameter,)), (parameter, value, others))


class Refused(Exception):
    """How a plain model refuses; told is what the refusal of the program must tell."""

    def __init__(self, title, *fields):
        super().__init__(title)
        self.told = (title, fields)


def outcome(call, *values, **named):
    """What a call returns, or what its refusal tells; a plain model is called in the same way."""
    try:
        return call(*values, **named)
    except (StoreError, Refused) as error:
        return error.told


def is_refusal(told):
    """True if an outcome is what a refusal tells."""
    return type(told) is tuple and len(told) == 2 and type(told[0]) is str


def state(ground):
    """All that can be read of a ground."""
    return (ground.image(), ground.spent, ground.budget, ground.depth, ground.pages, ground.width, ground.fill)


def cost_of(before, after):
    """The number of places at which two images differ."""
    return sum(old != new for old, new in zip(zip(*before[2:]), zip(*after[2:])))


def play(test, make, ground, plain, name, *values, **named):
    """Makes one call over the ground, over a copy of it and with the plain model, and compares all they tell.

    make(ground) is a keeper over a ground. What is returned is the outcome of the call.
    """
    before, saved = state(ground), copy.deepcopy(plain.__dict__)
    second = ground_of(ground.image())
    second.budget = None if ground.depth else ground.budget
    told = outcome(getattr(make(ground), name), *values, **named)
    test.assertEqual(outcome(getattr(make(second), name), *values, **named), told)
    due = outcome(getattr(plain, name), *values, **named)
    test.assertEqual(told, due, (name, values, named))
    if is_refusal(due):
        plain.__dict__.clear()
        plain.__dict__.update(saved)
        test.assertEqual(state(ground), before)
    image = ground.image()
    test.assertEqual(image, plain.image(), (name, values, named))
    test.assertEqual(image, second.image())
    charged = 0 if ground.depth else cost_of(before[0], image)
    test.assertEqual([ground.spent, ground.depth], [before[1] + charged, before[3]])
    return told


def bendings(value):
    """Values that differ at one place from a value of tuples, texts and integers."""
    if isinstance(value, tuple):
        bent = [list(value), value + value[:1], value[1:], value[:-1], value + (0,), (0,) + value, (value,), None, "x"]
        if value != value[::-1]:
            bent.append(value[::-1])
        for at, item in enumerate(value):
            bent += [value[:at] + (odd,) + value[at + 1:] for odd in bendings(item)]
        return [odd for odd in bent if odd != value or type(odd) is not tuple or list(map(type, odd)) != list(
            map(type, value))]
    if isinstance(value, str):
        return [value + " ", value[:-1], value.upper(), value.encode(), None, 0, 1, (), (value,), [value]]
    alike = [True] if value == 1 else [False] if value == 0 else []
    return alike + [value - 1, value + 1, float(value), str(value), -1, HUGE, None, (), (value,), [value]]
