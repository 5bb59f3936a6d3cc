"""The prices of cards where no top helps: the least ones, added, are the fewest steps."""

from supermoves.capacity import fewest_empty
from supermoves.checks import check_from
from supermoves.positions import check_kind


class Walk:
    """A way through rows (price, many) of a price list, which may still grow at its end."""

    def __init__(self, rows):
        self.rows = rows
        self.at = 0
        self.passed = 0

    def is_over(self):
        """Whether no price is left, for the present."""
        return self.at == len(self.rows)

    def price(self):
        """The next price."""
        return self.rows[self.at][0]

    def left(self):
        """How many prices are left that are told together with the next one."""
        return self.rows[self.at][1] - self.passed

    def go_on(self, many):
        """Pass by so many of the prices that are told together."""
        self.passed += many
        if self.left() == 0:
            self.at += 1
            self.passed = 0


def next_price(walks):
    """The sum of the next prices of some walks, None if one of them is over."""
    if any([walk.is_over() for walk in walks]):
        return None
    return sum([walk.price() for walk in walks])


def go_past(walks, price):
    """Pass by all next prices, or sums of such, that are just this price; how many they are."""
    many = 0
    while next_price(walks) == price:
        together = min([walk.left() for walk in walks])
        for walk in walks:
            walk.go_on(together)
        many += together
    return many


def first_list(cells):
    """The rows of A(1)."""
    return [(1, 1), (2, cells)] if cells > 0 else [(1, 1)]


def list_behind(shorter):
    """The rows of A(e), made of those of A(e - 1)."""
    rows = []
    kept = [Walk(shorter)]
    # Each sum is more than what it is made of: so what is wanted of the new rows is there by then.
    added = [Walk(rows), Walk(shorter)]
    price = next_price(kept)
    while price is not None:
        rows.append((price, go_past(kept, price) + go_past(added, price)))
        told = [one for one in [next_price(kept), next_price(added)] if one is not None]
        price = min(told, default=None)
    return rows


def lists_to(cells, last):
    """The list of the rows of A(1) to A(last)."""
    lists = [first_list(cells)]
    while len(lists) < last:
        lists.append(list_behind(lists[-1]))
    return lists[:last]


def told_together(lists):
    """The rows of all prices of some lists."""
    many_of = {}
    for rows in lists:
        for price, many in rows:
            many_of[price] = many_of.get(price, 0) + many
    return sorted(many_of.items())


def rows_beside(kind, cells, empty):
    """The price list beside so many free cells and empty columns, as rows."""
    if kind == "into":
        return lists_to(cells, empty)[-1]
    if kind == "whole":
        return lists_to(cells, empty + 1)[-1]
    doubled = [[(2 * price, many) for price, many in rows] for rows in lists_to(cells, empty)]
    return told_together([first_list(cells)] + doubled)


def sum_of_least(rows, many):
    """The sum of so many least prices, None if there are fewer."""
    total = 0
    for price, number in rows:
        taken = min(number, many)
        total += price * taken
        many -= taken
    return total if many == 0 else None


def check_beside(kind, cells, empty):
    """Refuse what is no kind, then what are no numbers of cells and of empty columns for it."""
    check_kind(kind)
    check_from(cells, 0)
    check_from(empty, fewest_empty(kind))


def prices(kind, cells, empty):
    """The list, ascending, of tuples of each price and of how many there are."""
    check_beside(kind, cells, empty)
    return rows_beside(kind, cells, empty)


def fewest(kind, cells, empty, many):
    """The least number of steps of so many cards, None if they can not go."""
    check_beside(kind, cells, empty)
    check_from(many, 1)
    return sum_of_least(rows_beside(kind, cells, empty), many)


def price_of(kind, cells, empty, number):
    """The price at a place, counted from 1, None if there are fewer."""
    check_beside(kind, cells, empty)
    check_from(number, 1)
    for price, many in rows_beside(kind, cells, empty):
        if number <= many:
            return price
        number -= many
    return None


def longest_within(kind, cells, empty, steps):
    """The greatest number of cards that go over in at most so many steps, 0 if none do."""
    check_beside(kind, cells, empty)
    check_from(steps, 0)
    longest = 0
    for price, many in rows_beside(kind, cells, empty):
        taken = min(many, steps // price)
        longest += taken
        steps -= price * taken
    return longest
