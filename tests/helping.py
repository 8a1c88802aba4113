"""What several tests need: things of all kinds, squares to turn, and calls with wrong arguments."""

from cellpictures.errors import InvalidNumber, InvalidWay, NothingDone

GREAT = 10 ** 99

ALL_ENDS = (("open", "open"), ("open", "wrap"), ("wrap", "open"), ("wrap", "wrap"))


def nested(depth, wrap):
    """A thing within so many others."""
    thing = 0
    for _ in range(depth):
        thing = wrap(thing)
    return thing


def things():
    """Things of all kinds, made anew."""
    return [
        None, True, False, 0, 1, 2, 3, 4, 5, 6, 7, 8, 9, -1, -8, GREAT, -GREAT,
        "", "0", "7", "open", "wrap", "ab", "a\nb ~", "x" * 300,
        (), (0,), (1, 2), (True,), (None, None), ((0, 1), (1, 0)), ("open", "wrap"), ("a", 0), ("a", 4),
        [], [0], [0, 1], [[0]], [(0, 1)], ["open", "open"], [None], [[], {}, ()],
        {}, {"a": 1}, {0: None}, {None: ()}, {(0, None): [1]}, {"rows": ((0,),)},
        nested(59, lambda thing: (thing,)), nested(59, lambda thing: [thing]), nested(59, lambda thing: {"a": thing}),
        tuple(range(4999)), list(range(4999)), (None,) * 4999,
        InvalidNumber(3), InvalidWay([1]), NothingDone(), (NothingDone(), 1), [InvalidWay(True)],
    ]


def is_integer_within(thing, low, high):
    return type(thing) is int and low <= thing <= high


def things_outside(low, high):
    """All things but the integers from low to high, and the integers just outside."""
    return [thing for thing in things() + [low - 1, high + 1] if not is_integer_within(thing, low, high)]


def bad_ends():
    ends = ("open", "wrap")
    return [thing for thing in things() if thing != ends] + [
        ["open", "wrap"], ["wrap", "wrap"], ("open",), ("wrap",), (("open", "open"),),
        ("open", "open", "open"), ("wrap", "open", "wrap"), ("open", "wrap", None),
        ("open", "Open"), ("WRAP", "open"), ("open", ""), ("", "wrap"), ("closed", "open"), ("wrap", "wrap "),
        ("open", None), (None, "open"), (True, False), (0, 1), ("open", ["wrap"]), (["open"], "open"), ({}, []),
        ("open", ("wrap",)), {"open": "open", "wrap": "wrap"}, "openopen", "openwrap", ("open", InvalidWay(0)),
    ]


def is_map(thing):
    """Whether a thing is a map, asked otherwise than the program asks it."""
    if type(thing) is not tuple or not thing or any(type(row) is not tuple for row in thing):
        return False
    kinds = [kind for row in thing for kind in row]
    lengths = sorted({len(row) for row in thing})
    return len(lengths) == 1 and lengths[0] > 0 and all(type(kind) is int and kind >= 0 for kind in kinds)


def bad_maps():
    return [thing for thing in things() if not is_map(thing)] + [
        ((),), ((), ()), ((0,), ()), ((), (0,)), ((0, 1), (0,)), ((0,), (0, 1)), ((0, 1), (0, 1), (0, 1, 2)),
        [(0,)], [(0, 1), (1, 0)], ([0],), ([0, 1], [1, 0]), ((0,), [0]), ([0], (0,)), [[0, 1], [1, 0]],
        ((-1,),), ((0, 1), (1, -1)), ((-GREAT,),), ((True,),), ((False,),), ((0, 1), (1, True)),
        ((None,),), ((0, None),), (("0",),), ((0, "1"),), (((0,),),), ((0, (0,)),), ((0, []),), ((0, {}),),
        (0,), (0, 1), ((0,), 0), (0, (0,)), ((0,), None), (None, (0,)), ("0",), ("ab", "ba"), ((0,), "a"),
        {0: (0,)}, {(0,): (0,)}, ({0: 0},), ((0,), {0: 0}), ((InvalidWay(0),),), (InvalidWay(0),), "((0,),)",
    ]


def great_map():
    """A map as large as those that are passed get."""
    return tuple(tuple((row * 20 + column) % 3 for column in range(20)) for row in range(10))


def mirrored(square):
    """Rows mirrored left for right."""
    return tuple(tuple(reversed(row)) for row in square)


def quartered(square):
    """Rows turned clockwise by a quarter: the first column, read from below, becomes the first row."""
    height, width = len(square), len(square[0])
    return tuple(tuple(square[height - 1 - k][column] for k in range(height)) for column in range(width))


def turned(square, way):
    """Rows mirrored and turned as [4] says."""
    if way >= 4:
        square = mirrored(square)
    for _ in range(way % 4):
        square = quartered(square)
    return square


def expect_error(test, error, thing, function, *placed, **named):
    """A call raises just this error, which holds just this thing, and does not change it."""
    before = repr(thing)
    with test.assertRaises(error) as caught:
        function(*placed, **named)
    test.assertIs(type(caught.exception), error)
    test.assertEqual(vars(caught.exception), {"thing": thing})
    test.assertIs(type(caught.exception.thing), type(thing))
    test.assertEqual(repr(thing), before)


class Wrong:
    """An argument: its name, a right thing for it, wrong ones and their error, and whether only its name passes it."""

    def __init__(self, name, right, wrong, error, only_named=False):
        self.name = name
        self.right = right
        self.wrong = wrong
        self.error = error
        self.only_named = only_named


def expect_refusals(test, function, arguments):
    """Each wrong argument is told, by place and by name; of several, the first in the order of the function's line."""
    for number, argument in enumerate(arguments):
        for thing in argument.wrong:
            with test.subTest(function=function.__name__, argument=argument.name, thing=repr(thing)[:80]):
                chosen = [other.right for other in arguments]
                chosen[number] = thing
                expect_refusal(test, function, arguments, chosen, argument.error, thing)
                for later in range(number + 1, len(arguments)):
                    for second in arguments[later].wrong[::7]:
                        expect_refusal(test, function, arguments, with_item(chosen, later, second),
                                       argument.error, thing)
                expect_refusal(test, function, arguments, all_wrong_from(arguments, chosen, number),
                               argument.error, thing)


def with_item(items, number, item):
    return items[:number] + [item] + items[number + 1:]


def all_wrong_from(arguments, chosen, number):
    return chosen[:number + 1] + [argument.wrong[0] for argument in arguments[number + 1:]]


def expect_refusal(test, function, arguments, chosen, error, thing):
    placed = [value for value, argument in zip(chosen, arguments) if not argument.only_named]
    behind = {argument.name: value for value, argument in zip(chosen, arguments) if argument.only_named}
    named = {argument.name: value for value, argument in zip(chosen, arguments)}
    backwards = {name: named[name] for name in reversed(named)}
    expect_error(test, error, thing, function, *placed, **behind)
    expect_error(test, error, thing, function, **named)
    expect_error(test, error, thing, function, **backwards)
