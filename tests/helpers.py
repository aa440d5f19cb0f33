"""What several tests share: how refusals and wrong arguments are looked at."""

from allgivenback.basics import StoreError

HUGE = 10 ** 700

# Values of every other kind than an integer.
NO_INTEGERS = (True, False, None, "", "1", (), (1,), [], [1], {}, {1: 1}, 1.0, b"1", {1}, object())

# Values of every kind, for the judges.
ODD_VALUES = NO_INTEGERS + (
    -1, 0, 1, HUGE, -HUGE, (0, 1), [0, 1], ((),), (None, None), ("held",), ((1, "held", ()),), int, len, 2j,
    frozenset(), range(3), float("nan"), float("inf"), bytearray(b"1"), NotImplemented, Ellipsis, StoreError("x"),
)


def told_by(call, *values, **named):
    """What the refusal of a call tells, or None if the call refuses nothing."""
    try:
        call(*values, **named)
    except StoreError as error:
        return error.told
    return None


def no_integer_in(low, high):
    """Values that are not integers from low to high."""
    return (low - 1, high + 1, HUGE, -HUGE) + NO_INTEGERS


def no_align_upto(most):
    """Values that are not alignments up to the given one."""
    return (3, 0, -1, -2, most + 1, most * 2, most - 1 if most > 2 else 5, HUGE, 2 ** 2000) + NO_INTEGERS


def check_wrong(test, call, good, bad, named=()):
    """Checks that each wrong argument is told, alone and with wrong ones behind it.

    good holds the right arguments in the order of the signature, bad the wrong values of those that are checked,
    and named the arguments that are passed by name. A right integer is also tried as a float.
    """
    for number, parameter in enumerate(good):
        later = {name: bad[name][0] for name in list(good)[number + 1:] if name in bad}
        floats = (float(good[parameter]),) if type(good[parameter]) is int else ()
        for value in tuple(bad[parameter]) + floats if parameter in bad else ():
            for others in ({}, later):
                values = {**good, parameter: value, **others}
                rows = [values[name] for name in good if name not in named]
                words = {name: values[name] for name in named}
                told = told_by(call, *rows, **words)
                test.assertEqual(told, ("BadValue", (parameter,)), (parameter, value, others))
