"""Books: kinds, rules in order, last pictures, and the symmetries of what the names stand for."""

from cellpictures.checks import (check_number, check_picture, check_way, is_count, is_list, is_picture, is_table,
                                 is_way)
from cellpictures.errors import (InvalidBook, InvalidLasts, InvalidNumber, InvalidRules, InvalidSymmetries,
                                 UnlikeBooks)
from cellpictures.rules import Rule, brought_further
from cellpictures.ways import behind


def check_kinds(kinds):
    """Raise InvalidNumber if a thing is not an integer from 1 on."""
    if not is_count(kinds) or kinds == 0:
        raise InvalidNumber(kinds)


def is_below(thing, kinds):
    """Tell whether a middle or an alternative, if it is a kind, is one of so many."""
    return not is_count(thing) or thing < kinds


def is_rule_below(thing, kinds):
    """Tell whether a thing is a rule for so many kinds."""
    if not isinstance(thing, Rule) or not is_below(thing.middle, kinds):
        return False
    return all([is_below(alternative, kinds) for condition in thing.around for alternative in condition])


def check_rules(rules, kinds):
    """Raise InvalidRules if a thing is not a list of rules for so many kinds."""
    if not is_list(rules):
        raise InvalidRules(None)
    for place, rule in enumerate(rules):
        if not is_rule_below(rule, kinds):
            raise InvalidRules(place)


def check_lasts(lasts, kinds):
    """Raise InvalidLasts if a thing is not a list of a picture or None for each kind."""
    if not is_list(lasts) or len(lasts) != kinds:
        raise InvalidLasts(None)
    for place, picture in enumerate(lasts):
        if picture is not None and not is_picture(picture):
            raise InvalidLasts(place)


def is_symmetry(thing):
    """Tell whether a thing can be the tuple of all ways that leave something as it is."""
    if not isinstance(thing, tuple) or not all([is_way(way) for way in thing]):
        return False
    if list(thing) != sorted(set(thing)) or 0 not in thing:
        return False
    return all([behind(way, first_way) in thing for way in thing for first_way in thing])


def check_symmetries(symmetries):
    """Raise InvalidSymmetries if a thing is neither None nor a dict of symmetries by names."""
    if symmetries is None:
        return
    if not is_table(symmetries):
        raise InvalidSymmetries(None)
    for name in sorted(symmetries):
        if not is_symmetry(symmetries[name]):
            raise InvalidSymmetries(name)


class Book:
    """A number of kinds, rules in order, a last picture or None for each kind, and symmetries of names."""

    def __init__(self, kinds, rules, lasts, *, symmetries=None):
        check_kinds(kinds)
        check_rules(rules, kinds)
        check_lasts(lasts, kinds)
        check_symmetries(symmetries)
        self._kinds = kinds
        self._rules = tuple(rules)
        self._lasts = tuple(lasts)
        self._symmetries = {} if symmetries is None else dict(symmetries)

    @property
    def kinds(self):
        """The number of kinds."""
        return self._kinds

    @property
    def rules(self):
        """The tuple of the rules, in order."""
        return self._rules

    @property
    def lasts(self):
        """The tuple of the last pictures, a picture or None for each kind."""
        return self._lasts

    @property
    def symmetries(self):
        """The dict of the symmetries that were passed, by names."""
        return dict(self._symmetries)

    def __eq__(self, other):
        if not isinstance(other, Book):
            return False
        return (self._kinds == other._kinds and self._rules == other._rules
                and self._lasts == other._lasts and self._symmetries == other._symmetries)

    def looks(self, picture):
        """Return the picture with the least way among those that look like a picture."""
        check_picture(picture)
        name, way = picture
        return name, min([behind(way, symmetry) for symmetry in self._symmetries.get(name, (0,))])

    def turned(self, way):
        """Return the book turned by a way."""
        check_way(way)
        rules = [rule.turned(way) for rule in self._rules]
        lasts = [None if picture is None else brought_further(picture, way) for picture in self._lasts]
        return Book(self._kinds, rules, lasts, symmetries=self._symmetries)

    def __add__(self, other):
        """Return the book that draws what this one draws, and what the other one draws where this one does not."""
        if not isinstance(other, Book):
            return NotImplemented
        if not are_alike(self, other):
            raise UnlikeBooks()
        rules = list(self._rules) + rules_for_lasts(self) + list(other._rules)
        return Book(self._kinds, rules, other._lasts, symmetries={**self._symmetries, **other._symmetries})

    def without(self, number):
        """Return the book without the rule with a number."""
        check_number(number, len(self._rules))
        rules = self._rules[:number] + self._rules[number + 1:]
        return Book(self._kinds, rules, self._lasts, symmetries=self._symmetries)


def are_alike(book, other):
    """Tell whether two books have as many kinds, and the same symmetries for names that both have."""
    if book.kinds != other.kinds:
        return False
    symmetries = other.symmetries
    return all([symmetries.get(name, ways) == ways for name, ways in book.symmetries.items()])


def rules_for_lasts(book):
    """Return rules that draw the last pictures of a book, whatever is around."""
    anywhere = ((),) * 8
    return [Rule(kind, anywhere, picture) for kind, picture in enumerate(book.lasts) if picture is not None]


def check_book(book):
    """Raise InvalidBook if a thing is not a book."""
    if not isinstance(book, Book):
        raise InvalidBook(book)
