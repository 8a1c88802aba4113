"""Rules: where they fit, and what they draw there."""

from cellpictures.checks import check_picture, check_way, is_count, is_list, is_way
from cellpictures.errors import InvalidCondition, InvalidNumber, InvalidWays
from cellpictures.ways import behind, inverse, place_to


def check_middle(middle):
    """Raise InvalidNumber if a thing is neither None nor a kind."""
    if middle is not None and not is_count(middle):
        raise InvalidNumber(middle)


def is_alternative(thing):
    """Tell whether a thing is an alternative of a condition."""
    return is_count(thing) or (isinstance(thing, str) and thing in ("same", "other", "beyond"))


def is_condition(thing):
    """Tell whether a thing is a tuple of alternatives."""
    return isinstance(thing, tuple) and all([is_alternative(item) for item in thing])


def check_around(around):
    """Raise InvalidCondition if a thing is not a list of eight conditions."""
    if not is_list(around) or len(around) != 8:
        raise InvalidCondition(None)
    for place, condition in enumerate(around):
        if not is_condition(condition):
            raise InvalidCondition(place)


def are_ways(thing):
    """Tell whether a thing is a list of ways, at least one."""
    return is_list(thing) and len(thing) > 0 and all([is_way(item) for item in thing])


def check_ways(ways):
    """Raise InvalidWays if a thing is not a list of different ways, at least one."""
    if not are_ways(ways) or len(set(ways)) != len(ways):
        raise InvalidWays(ways)


def is_met(alternative, middle, kind):
    """Tell whether an alternative holds for a kind, None for nothing, around a middle."""
    if alternative == "beyond":
        return kind is None
    if alternative == "same":
        return kind == middle
    if alternative == "other":
        return kind is not None and kind != middle
    return kind == alternative


def holds(condition, middle, kind):
    """Tell whether a condition holds for a kind, None for nothing, around a middle."""
    return condition == () or any([is_met(alternative, middle, kind) for alternative in condition])


def brought_further(picture, way):
    """Return the picture that a way makes of a picture."""
    name, own_way = picture
    return name, behind(way, own_way)


class Rule:
    """A middle, eight conditions around it, and the picture that is drawn in some ways where they hold."""

    def __init__(self, middle, around, picture, *, ways=(0,)):
        check_middle(middle)
        check_around(around)
        check_picture(picture)
        check_ways(ways)
        self._middle = middle
        self._around = tuple(around)
        self._picture = picture
        self._ways = tuple(ways)

    @property
    def middle(self):
        """The kind that the rule is for, None for any."""
        return self._middle

    @property
    def around(self):
        """The tuple of the conditions at the places 0 to 7."""
        return self._around

    @property
    def picture(self):
        """The picture that the rule draws in way 0."""
        return self._picture

    @property
    def ways(self):
        """The tuple of the ways in which the rule is tried, in order."""
        return self._ways

    def __eq__(self, other):
        if not isinstance(other, Rule):
            return False
        return (self._middle == other._middle and self._around == other._around
                and self._picture == other._picture and self._ways == other._ways)

    def turned(self, way):
        """Return the rule with a way behind each of its ways."""
        check_way(way)
        ways = [behind(way, own_way) for own_way in self._ways]
        return Rule(self._middle, self._around, self._picture, ways=ways)


def conditions_in_way(rule, way):
    """Return the conditions of a rule in a way, in the order of the places at which they are to hold."""
    back = inverse(way)
    return [rule.around[place_to(back, place)] for place in range(8)]
