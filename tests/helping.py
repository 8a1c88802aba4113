"""What several tests need.

Things of all kinds, and calls with wrong arguments; squares to turn, windows, and what books draw, gone through here
by themselves, otherwise than the program does it; and rules, books and maps, made of numbers that only seem random.
"""

from cellpictures.books import Book
from cellpictures.errors import InvalidNumber, InvalidWay, NothingDone
from cellpictures.rules import Rule

GREAT = 10 ** 99

ALL_ENDS = (("open", "open"), ("open", "wrap"), ("wrap", "open"), ("wrap", "wrap"))


def nested(depth, wrap):
    """A thing within so many others."""
    thing = 0
    for _ in range(depth):
        thing = wrap(thing)
    return thing


def things():
    """Things of all kinds, made anew."""
    return [
        None, True, False, 0, 1, 2, 3, 4, 5, 6, 7, 8, 9, -1, -8, GREAT, -GREAT,
        "", "0", "7", "open", "wrap", "ab", "a\nb ~", "x" * 300,
        (), (0,), (1, 2), (True,), (None, None), ((0, 1), (1, 0)), ("open", "wrap"), ("a", 0), ("a", 4),
        [], [0], [0, 1], [[0]], [(0, 1)], ["open", "open"], [None], [[], {}, ()],
        {}, {"a": 1}, {0: None}, {None: ()}, {(0, None): [1]}, {"rows": ((0,),)},
        nested(59, lambda thing: (thing,)), nested(59, lambda thing: [thing]), nested(59, lambda thing: {"a": thing}),
        tuple(range(4999)), list(range(4999)), (None,) * 4999,
        InvalidNumber(3), InvalidWay([1]), NothingDone(), (NothingDone(), 1), [InvalidWay(True)],
        some_rule(), some_book(), (some_rule(),), [some_book()], {"a": some_rule()}, ("a", some_book()),
    ]


def some_rule():
    return Rule(0, [("other", 0)] * 8, ("a", 4), ways=[0, 3])


def some_book():
    return Book(2, [some_rule()], [None, ("a", 1)], symmetries={"a": (0, 6)})


def is_integer_within(thing, low, high):
    return type(thing) is int and low <= thing <= high


def is_count(thing):
    return type(thing) is int and thing >= 0


def things_outside(low, high):
    """All things but the integers from low to high, and the integers just outside."""
    return [thing for thing in things() + [low - 1, high + 1] if not is_integer_within(thing, low, high)]


def bad_ends():
    ends = ("open", "wrap")
    return [thing for thing in things() if thing != ends] + [
        ["open", "wrap"], ["wrap", "wrap"], ("open",), ("wrap",), (("open", "open"),),
        ("open", "open", "open"), ("wrap", "open", "wrap"), ("open", "wrap", None),
        ("open", "Open"), ("WRAP", "open"), ("open", ""), ("", "wrap"), ("closed", "open"), ("wrap", "wrap "),
        ("open", None), (None, "open"), (True, False), (0, 1), ("open", ["wrap"]), (["open"], "open"), ({}, []),
        ("open", ("wrap",)), {"open": "open", "wrap": "wrap"}, "openopen", "openwrap", ("open", InvalidWay(0)),
    ]


def is_map(thing):
    """Whether a thing is a map, asked otherwise than the program asks it."""
    if type(thing) is not tuple or not thing or any(type(row) is not tuple for row in thing):
        return False
    kinds = [kind for row in thing for kind in row]
    lengths = sorted({len(row) for row in thing})
    return len(lengths) == 1 and lengths[0] > 0 and all(type(kind) is int and kind >= 0 for kind in kinds)


def bad_maps():
    return [thing for thing in things() if not is_map(thing)] + [
        ((),), ((), ()), ((0,), ()), ((), (0,)), ((0, 1), (0,)), ((0,), (0, 1)), ((0, 1), (0, 1), (0, 1, 2)),
        [(0,)], [(0, 1), (1, 0)], ([0],), ([0, 1], [1, 0]), ((0,), [0]), ([0], (0,)), [[0, 1], [1, 0]],
        ((-1,),), ((0, 1), (1, -1)), ((-GREAT,),), ((True,),), ((False,),), ((0, 1), (1, True)),
        ((None,),), ((0, None),), (("0",),), ((0, "1"),), (((0,),),), ((0, (0,)),), ((0, []),), ((0, {}),),
        (0,), (0, 1), ((0,), 0), (0, (0,)), ((0,), None), (None, (0,)), ("0",), ("ab", "ba"), ((0,), "a"),
        {0: (0,)}, {(0,): (0,)}, ({0: 0},), ((0,), {0: 0}), ((InvalidWay(0),),), (InvalidWay(0),), "((0,),)",
    ]


def bad_maps_below(kinds):
    """No maps, and maps with kinds that a book with so many does not have."""
    return bad_maps() + [
        ((kinds,),), ((0, 0), (0, kinds)), ((kinds, 0), (0, 0)), ((0,), (kinds,), (0,)), ((0, kinds + 1),), ((GREAT,),),
    ]


def is_picture(thing):
    """Whether a thing is a picture, asked otherwise than the program asks it."""
    if type(thing) is not tuple or len(thing) != 2:
        return False
    return type(thing[0]) is str and is_integer_within(thing[1], 0, 7)


def bad_pictures():
    return [thing for thing in things() if not is_picture(thing)] + [
        ["a", 0], ("a",), ("a", 0, 0), (0, "a"), ("a", "b"), ("a", 8), ("a", -1), ("a", GREAT), ("a", True),
        ("a", False), ("a", None), ("a", (0,)), ("a", [0]), ("a", "0"), (None, 0), (0, 0), (("a",), 0), (["a"], 0),
        ({"a": 0}, 0), "a0", {"a": 0}, (("a", 0),), [("a", 0)], ("a", InvalidWay(0)), (some_rule(), 0),
    ]


def bad_books():
    return [thing for thing in things() if type(thing) is not Book] + [(some_book(),), {0: some_book()}, Book, "Book"]


def with_condition(place, condition):
    """Conditions that all hold anywhere, but for one place."""
    return [condition if place == number else () for number in range(8)]


def with_sign(signs, name, number, sign):
    """Signs with one of a name exchanged."""
    return {**signs, name: signs[name][:number] + (sign,) + signs[name][number + 1:]}


def bad_signs():
    """No signs, each with the name that is told of them."""
    told = [(thing, None) for thing in things() if type(thing) is not dict]
    four = ("", "a", "b", "c")
    told += [([("a", four)], None), (("a", four), None), (some_book(), None)]
    for key in (None, 0, True, (), ("a",), (0, None)):
        told += [({key: four}, None), ({"a": four, key: four}, None), ({key: four, "a": ()}, None)]
    for thing in [thing for thing in things() if not (type(thing) is tuple and len(thing) == 4)] + [
            ("a",) * 3, ("a",) * 5, ["a"] * 4, ("a", "b", "c", None), (0, 1, 2, 3), ("a", "b", "c", 0), "abcd",
            ("a", True, "b", "c"), (("a",),) * 4, ({}, "a", "b", "c"), {"a": 0, "b": 1, "c": 2, "d": 3}, (None,) * 4]:
        told += [({"a": thing}, "a"), ({"b": thing, "a": four}, "b"), ({"c": four[:3], "b": thing, "d": None}, "b")]
    return told


def great_map():
    """A map as large as those that are passed get."""
    return tuple(tuple((row * 20 + column) % 3 for column in range(20)) for row in range(10))


def mirrored(square):
    """Rows mirrored left for right."""
    return tuple(tuple(reversed(row)) for row in square)


def quartered(square):
    """Rows turned clockwise by a quarter: the first column, read from below, becomes the first row."""
    height, width = len(square), len(square[0])
    return tuple(tuple(square[height - 1 - k][column] for k in range(height)) for column in range(width))


def turned(square, way):
    """Rows mirrored and turned as [4] says."""
    if way >= 4:
        square = mirrored(square)
    for _ in range(way % 4):
        square = quartered(square)
    return tuple(tuple(row) for row in square)


AROUND = ((0, 0), (0, 1), (0, 2), (1, 2), (2, 2), (2, 1), (2, 0), (1, 0))


def found_places():
    """Where each way brings each place, found on a square that is turned."""
    square = ((0, 1, 2), (7, None, 3), (6, 5, 4))
    told = []
    for way in range(8):
        after = turned(square, way)
        numbers = [after[row][column] for row, column in AROUND]
        told.append([numbers.index(place) for place in range(8)])
    return told


def found_ways():
    """The way that does what a first way and then a second way does, by second and first, found on a square."""
    square = ((0, 1), (2, 3))
    ways = {turned(square, way): way for way in range(8)}
    return [[ways[turned(turned(square, first), second)] for first in range(8)] for second in range(8)]


BROUGHT = found_places()
BEHIND = found_ways()


def all_symmetries():
    """All tuples that may be the symmetries of a name."""
    told = []
    for marks in range(256):
        ways = tuple(way for way in range(8) if marks >> way & 1)
        if 0 in ways and all(BEHIND[second][first] in ways for second in ways for first in ways):
            told.append(ways)
    return told


def laid_out(rows, ends):
    """The rows with what is beyond them around, one cell wide."""
    across, down = ends
    wide = []
    for row in rows:
        wide.append([row[-1], *row, row[0]] if across == "wrap" else [None, *row, None])
    nothing = [None] * len(wide[0])
    return [wide[-1], *wide, wide[0]] if down == "wrap" else [nothing, *wide, nothing]


def window_of(rows, row, column, ends):
    above, here, below = [line[column:column + 3] for line in laid_out(rows, ends)[row:row + 3]]
    return here[1], (above[0], above[1], above[2], here[2], below[2], below[1], below[0], here[0])


def cells(rows):
    return [(row, column) for row in range(len(rows)) for column in range(len(rows[0]))]


def condition_holds(condition, middle, kind):
    """Whether a condition holds for what is at a place."""
    if not condition:
        return True
    names = ["beyond"] if kind is None else [kind, "same" if kind == middle else "other"]
    return any(name in condition for name in names)


def choice_of(book, middle, around):
    """The number of the first rule that fits a window, and the first way in which it does, or None."""
    for number, rule in enumerate(book.rules):
        for way in rule.ways:
            holding = [condition_holds(rule.around[place], middle, around[BROUGHT[way][place]]) for place in range(8)]
            if all(holding) and rule.middle in (None, middle):
                return number, way
    return None


def untold_picture_of(book, middle, around):
    """The picture of a window, as the rule or the last picture gives it, or None."""
    choice = choice_of(book, middle, around)
    if choice is None:
        return book.lasts[middle]
    name, own_way = book.rules[choice[0]].picture
    return name, BEHIND[choice[1]][own_way]


def told_by(symmetries, picture):
    """A picture as it is told, None for none."""
    if picture is None:
        return None
    name, way = picture
    return min((name, BEHIND[way][symmetry]) for symmetry in symmetries.get(name, (0,)))


def drawing_of(book, rows, ends):
    pictures = [[untold_picture_of(book, *window_of(rows, row, column, ends)) for column in range(len(rows[0]))]
                for row in range(len(rows))]
    return tuple(tuple(told_by(book.symmetries, picture) for picture in line) for line in pictures)


class Picker:
    """Picks things by numbers that seem random and are always the same."""

    def __init__(self, seed):
        self.state = seed

    def below(self, limit):
        self.state = (self.state * 6364136223846793005 + 1442695040888963407) % 2 ** 64
        return (self.state >> 33) % limit

    def pick(self, items):
        return items[self.below(len(items))]

    def some(self, items, many):
        """So many different ones of the items, in any order."""
        rest = list(items)
        return [rest.pop(self.below(len(rest))) for _ in range(many)]

    def condition(self, kinds):
        if self.below(5) < 3:
            return ()
        alternatives = ["same", "other", "beyond", "other", *range(kinds)]
        return tuple(self.pick(alternatives) for _ in range(1 + self.below(3)))

    def picture(self):
        return self.pick(["a", "b", "c", "abcdefgh"]), self.below(8)

    def rule(self, kinds):
        middle = self.pick([None, *range(kinds)])
        ways = self.some(range(8), self.pick([1, 1, 2, 3, 4, 8]))
        return Rule(middle, [self.condition(kinds) for _ in range(8)], self.picture(), ways=ways)

    def symmetries(self):
        names = [name for name in ["a", "b", "c", "z"] if self.below(2)]
        return {name: self.pick(all_symmetries()) for name in names}

    def book(self, kinds, symmetries=None):
        lasts = [self.pick([None, self.picture(), self.picture()]) for _ in range(kinds)]
        rules = [self.rule(kinds) for _ in range(self.below(5))]
        return Book(kinds, rules, lasts, symmetries=self.symmetries() if symmetries is None else symmetries)

    def map(self, height, width, kinds):
        return tuple(tuple(self.below(kinds) for _ in range(width)) for _ in range(height))


SIZES = ((1, 1), (1, 2), (2, 1), (1, 3), (1, 5), (3, 1), (5, 1), (2, 2), (2, 3), (3, 3), (4, 2), (4, 4), (3, 5), (5, 5))


def made_books(many, seed):
    """Books with one to three kinds."""
    picker = Picker(seed)
    return [picker.book(1 + number % 3) for number in range(many)]


def made_maps(kinds, seed):
    """A map of each size."""
    picker = Picker(seed)
    return [picker.map(height, width, kinds) for height, width in SIZES]


def expect_error(test, error, fields, function, *placed, **named):
    """A call raises just this error, which holds just these fields, and does not change them."""
    before = repr(fields)
    with test.assertRaises(error) as caught:
        function(*placed, **named)
    test.assertIs(type(caught.exception), error)
    test.assertEqual(vars(caught.exception), fields)
    for name, thing in fields.items():
        test.assertIs(type(getattr(caught.exception, name)), type(thing))
    test.assertEqual(repr(fields), before)


class Wrong:
    """An argument: its name, a right thing for it, wrong ones and their error, and whether only its name passes it.

    The error holds the wrong thing itself; if a field is named, the wrong ones come as tuples (thing, what it holds).
    """

    def __init__(self, name, right, wrong, error, only_named=False, field=None):
        self.name = name
        self.right = right
        self.error = error
        self.only_named = only_named
        if field is None:
            self.wrong = [(thing, {"thing": thing}) for thing in wrong]
        else:
            self.wrong = [(thing, {field: told}) for thing, told in wrong]


def expect_refusals(test, function, arguments):
    """Each wrong argument is told, by place and by name; of several, the first in the order of the function's line."""
    for number, argument in enumerate(arguments):
        for thing, fields in argument.wrong:
            with test.subTest(function=function.__name__, argument=argument.name, thing=repr(thing)[:80]):
                chosen = [other.right for other in arguments]
                chosen[number] = thing
                expect_refusal(test, function, arguments, chosen, argument.error, fields)
                for later in range(number + 1, len(arguments)):
                    for second, _ in arguments[later].wrong[::7]:
                        expect_refusal(test, function, arguments, with_item(chosen, later, second),
                                       argument.error, fields)
                expect_refusal(test, function, arguments, all_wrong_from(arguments, chosen, number),
                               argument.error, fields)


def with_item(items, number, item):
    return items[:number] + [item] + items[number + 1:]


def all_wrong_from(arguments, chosen, number):
    return chosen[:number + 1] + [argument.wrong[0][0] for argument in arguments[number + 1:]]


def expect_refusal(test, function, arguments, chosen, error, fields):
    placed = [value for value, argument in zip(chosen, arguments) if not argument.only_named]
    behind = {argument.name: value for value, argument in zip(chosen, arguments) if argument.only_named}
    named = {argument.name: value for value, argument in zip(chosen, arguments)}
    backwards = {name: named[name] for name in reversed(named)}
    before = repr(chosen)
    expect_error(test, error, fields, function, *placed, **behind)
    expect_error(test, error, fields, function, **named)
    expect_error(test, error, fields, function, **backwards)
    test.assertEqual(repr(chosen), before)
