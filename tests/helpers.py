"""What the tests share: values of all sorts, slight changes of them, and calls that are watched."""

import copy
import functools
import random

from supermoves.errors import InvalidNumber, Stuck
from supermoves.live import LiveTable

BUILDS = ["other", "same", "any"]
KINDS = ["over", "into", "whole"]
PLACES = ["cell", "column", "goal", "next", "top"]


def deep(many):
    value = []
    for _ in range(many):
        value = [value]
    return value


def junk():
    """Values of all sorts, none of which is rules, a card, a position, a place, a move, a game or a room."""
    live = LiveTable((1, 1, "any"), ([[]], [], [1]))
    return [
        None, True, False, 0, 1, -1, 10 ** 29, "", "x", "over ", "column", "\t\n", (), {}, (1,), (1, 2, 3, 4),
        {"over": 1}, {1: (1, 0)}, [None], ["over"], ("over",), (None, None), (None, None, None), ([], [], []),
        ((), (), ()), deep(30), (deep(28), "x"), InvalidNumber(3), [InvalidNumber], Stuck(),
        live, [live], (live, live), (live, live, live),
    ]


def same(one, two):
    """Whether two values are equal, and of the same kinds throughout (errors: of the same class)."""
    if type(one) is not type(two):
        return False
    if isinstance(one, (list, tuple)):
        return len(one) == len(two) and all(same(a, b) for a, b in zip(one, two))
    if isinstance(one, dict):
        return same(list(one.items()), list(two.items()))
    return one == two or isinstance(one, Exception)


def lists_in(value):
    """All lists within a value, each one as often as it stands there."""
    found = [value] if isinstance(value, list) else []
    if isinstance(value, (list, tuple)):
        for item in value:
            found.extend(lists_in(item))
    return found


def spoil(value):
    """Change all lists within a value."""
    for one in lists_in(value):
        one.clear()
        one.append("spoiled")


def watched(test, function, *arguments):
    """The result of a call that changes no argument and gives away no list twice, by position and by name."""
    before = copy.deepcopy(arguments)
    result = function(*arguments)
    test.assertTrue(same(before, arguments), f"{function.__name__} changed its arguments")
    own = [id(one) for one in lists_in(result)]
    test.assertEqual(len(own), len(set(own)), f"{function.__name__} returned a list twice")
    given = {id(one) for one in lists_in(arguments)}
    test.assertFalse(given & set(own), f"{function.__name__} returned a list of its arguments")
    kept = copy.deepcopy(result)
    spoil(result)
    test.assertTrue(same(before, arguments), f"{function.__name__} shares a list with its arguments")
    names = function.__code__.co_varnames[:function.__code__.co_argcount]
    again = function(**dict(zip(names, arguments)))
    test.assertTrue(same(kept, again), f"{function.__name__} told two things: {kept} and {again}")
    return kept


def refused(test, error, value, function, *arguments):
    """Check that a call raises just this error, with this very value, and changes nothing."""
    before = copy.deepcopy(arguments)
    try:
        result = function(*arguments)
    except Exception as caught:
        test.assertIs(type(caught), error, f"{function.__name__}{arguments}")
        test.assertIs(caught.value, value, f"{function.__name__}{arguments}")
    else:
        test.fail(f"{function.__name__}{arguments} returned {result}")
    test.assertTrue(same(before, arguments), f"{function.__name__} changed its arguments")


def refuses(test, function, *parameters):
    """Check each error of a function, the first wrong argument first.

    Each parameter is a tuple of a good argument, the error for it (None if there is none), and a list of bad ones.
    """
    good = [parameter[0] for parameter in parameters]
    function(*good)
    for at, (_, error, bad) in enumerate(parameters):
        if error is None:
            continue
        for one in bad:
            refused(test, error, one, function, *good[:at], one, *good[at + 1:])
            worst = [parameter[2][0] if parameter[2] else parameter[0] for parameter in parameters[at + 1:]]
            refused(test, error, one, function, *good[:at], one, *worst)


def not_counts():
    """What is no count."""
    return [value for value in junk() if type(value) is not int or value < 0] + [-10 ** 29]


def not_numbers():
    """What is no whole number of at least 1."""
    return not_counts() + [0]


def changes(value):
    """Values that come of one by a slight change somewhere within it."""
    found = [None, [], (), {}, "", 0, True]
    if isinstance(value, bool) or value is None:
        found += [int(bool(value)), not value, (1, 0), "-"]
    elif isinstance(value, int):
        found += [value - 1, value + 1, -value, str(value), (value,), [value], 10 ** 29]
        found += [bool(value)] if value in (0, 1) else []
    elif isinstance(value, str):
        found += [value[:-1], value + " ", value + "s", value.upper(), value.title(), [value], (value,)]
    elif isinstance(value, (list, tuple)):
        make = type(value)
        found += [tuple(value) if make is list else list(value), [value], (value,), {0: value}]
        items = list(value)
        for at, item in enumerate(items):
            found += [make(items[:at] + items[at + 1:]), make(items[:at] + [item] + items[at:])]
            found += [make(items[:at] + [other] + items[at + 1:]) for other in changes(item)]
            found += [make(items[:at] + [items[to]] + items[at + 1:to] + [item] + items[to + 1:])
                      for to in range(at + 1, len(items))]
        found += [make(items + [None]), make(items + [[]]), make(items + [0])]
    return found


def all_cards(rules):
    return [(rank, suit) for rank in range(1, rules[0] + 1) for suit in range(rules[1])]


def some_position(chance, rules, columns, cells, runs_wanted=False):
    """Any position of rules; with runs wanted its cards are laid on those on which they lie, where there are any."""
    ranks, suits, _ = rules
    homes = [chance.choice([0, chance.randint(0, ranks), chance.randint(0, ranks)]) for _ in range(suits)]
    left = [card for card in all_cards(rules) if card[0] > homes[card[1]]]
    chance.shuffle(left)
    if runs_wanted:
        left.sort(key=lambda card: -card[0] + chance.choice([0, 0, 0, 2]))
    table = ([[] for _ in range(columns)], [None] * cells, homes)
    for card in left:
        free = [number for number in range(cells) if table[1][number] is None]
        if free and chance.random() < 0.2:
            table[1][chance.choice(free)] = card
            continue
        good = [column for column in table[0] if column and plainly_lies_on(rules, card, column[-1])]
        chance.choice(good if good and runs_wanted else table[0]).append(card)
    return table


def plainly_lies_on(rules, card, other):
    """As [4] tells it."""
    if card[0] != other[0] - 1:
        return False
    if rules[2] == "other":
        return (card[1] in (0, 2, 4, 6)) != (other[1] in (0, 2, 4, 6))
    return rules[2] == "any" or card[1] == other[1]


def some_positions(many, seed, most_columns=5, most_cells=3):
    """Tuples of rules and a position of them, of all sizes, the same ones each time."""
    chance = random.Random(seed)
    found = []
    for number in range(many):
        rules = (chance.randint(1, 5), chance.randint(1, 4), chance.choice(BUILDS))
        found.append((rules, some_position(chance, rules, chance.randint(1, most_columns),
                                           chance.randint(0, most_cells), number % 2 == 0)))
    return found


def edge_positions():
    """Tuples of rules and a position of them, at the edges that the document names."""
    found = []
    for build in BUILDS:
        found += [
            ((1, 1, build), ([[(1, 0)]], [], [0])),
            ((1, 1, build), ([[]], [(1, 0)], [0])),
            ((1, 1, build), ([[]], [], [1])),
            ((1, 8, build), ([[], []], [None], [1] * 8)),
            ((1, 8, build), ([[(1, suit) for suit in range(8)]], [], [0] * 8)),
            ((20, 1, build), ([[(rank, 0) for rank in range(20, 0, -1)], []], [None, None], [0])),
            ((20, 8, build), ([all_cards((20, 8, build))[::-1], [], []], [None] * 7, [0] * 8)),
            ((20, 8, build), ([[]], [], [20] * 8)),
            ((3, 2, build), ([[(3, 0), (2, 1)], [(3, 1)], []], [(2, 0), None], [1, 1])),
            ((3, 2, build), ([[], [], []], [(3, 0), (3, 1), None], [2, 2])),
            ((3, 2, build), ([[], [], []], [None, None], [3, 3])),
            ((2, 2, build), ([[(2, 1)]] + [[] for _ in range(10)], [None] * 8 + [(2, 0)], [1, 1])),
        ]
    return found


def places_in(position):
    """All places of a position, in order."""
    columns, cells, homes = position
    return ([("cell", number) for number in range(len(cells))]
            + [("column", number) for number in range(len(columns))]
            + [("home", number) for number in range(len(homes))])


def begin_of(many):
    return ("next",) * (many - 1) + ("base",)


def end_of(many):
    return ("next",) * (many - 1) + ("goal",)


def is_right_standing(kind, room, standing):
    """As [29] tells it, of a tuple of strings that are places."""
    cells, empty, tops = room
    many = len(standing)
    if standing[-1] in ("next", "top") or set(standing[:-1]) & {"base", "goal"}:
        return False
    for at in range(many - 1):
        if standing[at] == "next" and standing[at + 1] == "cell" or standing[at] == "top" and at + 1 not in tops:
            return False
    taken = standing.count("column") + (kind == "into" and standing[-1] == "goal")
    free = empty + (kind == "whole" and standing[-1] != "base")
    return standing.count("cell") <= cells and taken <= free


def plain_steps(kind, room, standing):
    """As [30] tells it: tuples of each possible step and of the standing behind it, a tuple like the one given."""
    found = []
    for at in range(len(standing)):
        if at > 0 and standing[at - 1] == "next" or standing[at] == "goal":
            continue
        for place in PLACES:
            behind = standing[:at] + (place,) + standing[at + 1:]
            if place != standing[at] and is_right_standing(kind, room, behind):
                found.append(((at + 1, place), behind))
    return found


def plain_standings(kind, room, many, plan):
    """As [31] tells it: the standings of a list of steps, tuples, None if it is no plan."""
    told = [begin_of(many)]
    for step in plan:
        behind = dict(plain_steps(kind, room, told[-1])).get(step)
        if behind is None:
            return None
        told.append(behind)
    return told


def plain_search(kind, room, standing):
    """The shortest list of steps from a standing to the end, None if there is none, and how many are so short."""
    end = end_of(len(standing))
    layer, ways = {standing: 1}, {standing: []}
    while layer and end not in layer:
        behind_all = {}
        for here, many in layer.items():
            for step, behind in plain_steps(kind, room, here):
                if behind not in ways:
                    ways[behind] = ways[here] + [step]
                    behind_all[behind] = many
                elif behind in behind_all:
                    behind_all[behind] += many
        layer = behind_all
    return ways.get(end), layer.get(end, 0)


@functools.lru_cache(maxsize=None)
def searched(kind, cells, empty, tops, many):
    """The fewest steps, None if there is no right plan, and how many plans have so few, by going through standings."""
    way, number = plain_search(kind, (cells, empty, tops), begin_of(many))
    return None if way is None else len(way), number


def searched_fewest(kind, room, many):
    """The fewest steps of a run in a room, None if there is no right plan, by going through standings."""
    return searched(kind, room[0], room[1], tuple(room[2]), many)[0]


def any_room(chance, most_cells, most_empty, many, share):
    """Any room with about such a share of the tops that a run of so many cards, and one card more, can have."""
    tops = [top for top in range(1, many + 2) if chance.random() < share]
    return (chance.randint(0, most_cells), chance.randint(0, most_empty), tops)


def play_examples(test, text):
    """Run lines of examples as the document prints them: each line `# ..` is the answer to the line ahead of it."""
    names = {}
    rows = [row for row in text.split("\n") if row]
    for at, row in enumerate(rows):
        if row.startswith("# "):
            continue
        if at + 1 < len(rows) and rows[at + 1].startswith("# "):
            told = eval(row, names)
            test.assertTrue(same(told, eval(rows[at + 1][2:], {})), f"{row} returned {told}")
        else:
            exec(row, names)
