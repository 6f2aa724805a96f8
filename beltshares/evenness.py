"""Whether a work parts evenly, whatever drains are shut or slow."""

from beltshares.belts import MOST_PACE
from beltshares.errors import BadPaces, TooMany
from beltshares.knots import Drain
from beltshares.ratios import ratio_less
from beltshares.shares import shares_of
from beltshares.works import Work

MOST_SETTINGS = 81


def check_paces(paces):
    """Refuses with BadPaces a number that is no drain's pace."""
    for pace in paces:
        if not 0 <= pace <= MOST_PACE:
            raise BadPaces("a drain's pace is out of its bounds")


def check_one_each(work, parts):
    """Refuses with BadPaces a list that has not one part for each drain."""
    if len(parts) != len(work.drains()):
        raise BadPaces("there is not one part for each drain")


def with_paces(work, paces):
    """A work like this one whose drains have these paces, in the order of their numbers."""
    check_one_each(work, paces)
    check_paces(paces)
    knots = list(work.knots)
    for number, pace in zip(work.drains(), paces):
        knots[number] = Drain(knots[number].ins[0], pace)
    return Work(work.belts, knots)


def most_taken(pace):
    """The most that a drain of a pace can take by turn."""
    return (0, 1) if pace == 0 else (1, pace)


def uneven_pair(paces, taken):
    """The first pair (i, j) of drains where i gets less than j and less than it can take, or None."""
    for i, less in enumerate(taken):
        if not ratio_less(less, most_taken(paces[i])):
            continue
        for j, more in enumerate(taken):
            if ratio_less(less, more):
                return (i, j)
    return None


def count_settings(menus):
    """How many settings the menus have."""
    count = 1
    for menu in menus:
        count = count * len(menu)
    return count


def longer_settings(settings, menu):
    """Each of the settings with each number of a menu behind it."""
    longer = []
    for setting in settings:
        longer.extend([setting + [number] for number in menu])
    return longer


def settings_of(menus):
    """All lists with one number out of each menu, the last ones changing fastest; more than 81 are too many."""
    count = count_settings(menus)
    if count > MOST_SETTINGS:
        raise TooMany("there are too many settings")
    # Asked for ahead, since the menus beside an empty one may have any number of settings.
    if count == 0:
        return []
    settings = [[]]
    for menu in menus:
        settings = longer_settings(settings, menu)
    return settings


def taken_by_drains(work, limit):
    """The shares that the drains of a work take, in the order of their numbers."""
    shares = shares_of(work, limit)
    return [shares[number][0] for number in work.drains()]


def even_fault(work, menus, limit=200):
    """The first setting with an uneven pair, as (paces, taken, i, j), or None where the work parts evenly.

    It refuses with BadPaces, with TooMany, and with TooLong at a setting whose round is not found.
    """
    check_one_each(work, menus)
    for menu in menus:
        check_paces(menu)
    for paces in settings_of(menus):
        taken = taken_by_drains(with_paces(work, paces), limit)
        pair = uneven_pair(paces, taken)
        if pair is not None:
            return (paces, taken, pair[0], pair[1])
    return None
