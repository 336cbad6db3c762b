"""The 27 names, their curve classes, and which of them meet, without any checks.

Within the package a name is told by its number, from 0 to 26, so that names
ascend as their numbers do.
"""

from sixpins.classes import times_crossed

NAMES = ("p0", "p1", "p2", "p3", "p4", "p5",
         "j01", "j02", "j03", "j04", "j05", "j12", "j13", "j14", "j15", "j23", "j24", "j25", "j34", "j35", "j45",
         "c0", "c1", "c2", "c3", "c4", "c5")

CLASSES = ((0, -1, 0, 0, 0, 0, 0), (0, 0, -1, 0, 0, 0, 0), (0, 0, 0, -1, 0, 0, 0),
           (0, 0, 0, 0, -1, 0, 0), (0, 0, 0, 0, 0, -1, 0), (0, 0, 0, 0, 0, 0, -1),
           (1, 1, 1, 0, 0, 0, 0), (1, 1, 0, 1, 0, 0, 0), (1, 1, 0, 0, 1, 0, 0),
           (1, 1, 0, 0, 0, 1, 0), (1, 1, 0, 0, 0, 0, 1), (1, 0, 1, 1, 0, 0, 0),
           (1, 0, 1, 0, 1, 0, 0), (1, 0, 1, 0, 0, 1, 0), (1, 0, 1, 0, 0, 0, 1),
           (1, 0, 0, 1, 1, 0, 0), (1, 0, 0, 1, 0, 1, 0), (1, 0, 0, 1, 0, 0, 1),
           (1, 0, 0, 0, 1, 1, 0), (1, 0, 0, 0, 1, 0, 1), (1, 0, 0, 0, 0, 1, 1),
           (2, 0, 1, 1, 1, 1, 1), (2, 1, 0, 1, 1, 1, 1), (2, 1, 1, 0, 1, 1, 1),
           (2, 1, 1, 1, 0, 1, 1), (2, 1, 1, 1, 1, 0, 1), (2, 1, 1, 1, 1, 1, 0))

# Three names are a trio exactly if their classes add up to this one.
PLANE_CLASS = (3, 1, 1, 1, 1, 1, 1)

MANY_NAMES = 27
MANY_IN_SIX = 6


def is_name(value):
    """Whether any value is a name."""
    return isinstance(value, str) and value in NAMES


def number_of(name):
    """The number of a name."""
    return NAMES.index(name)


def names_of(numbers):
    """The tuple of the names of these numbers."""
    return tuple([NAMES[number] for number in numbers])


def number_of_class(row):
    """The number of the name with this curve class, a tuple; None if there is none."""
    return CLASSES.index(row) if row in CLASSES else None


def met(one, other):
    """How often the classes of the names of two numbers meet."""
    return times_crossed(CLASSES[one], CLASSES[other])


def third_of_trio(one, other):
    """The number of the name that makes up a trio with two names that meet."""
    left = [whole - first - second
            for whole, first, second in zip(PLANE_CLASS, CLASSES[one], CLASSES[other])]
    return number_of_class(tuple(left))


def pairs_beside(number):
    """The ascending list of the five pairs of numbers that make up a trio with this one."""
    told = []
    for one in range(MANY_NAMES):
        if met(number, one) == 1:
            other = third_of_trio(number, one)
            if one < other:
                told.append((one, other))
    return told


def trios_with(number):
    """The ascending list of the five trios of numbers with this one."""
    return sorted([tuple(sorted((number,) + pair)) for pair in pairs_beside(number)])


def all_trios_of_numbers():
    """The ascending list of the 45 trios of numbers."""
    return [(number,) + pair for number in range(MANY_NAMES)
            for pair in pairs_beside(number) if number < pair[0]]


def is_trio(numbers):
    """Whether three numbers are those of a trio."""
    one, other, third = numbers
    return met(one, other) == met(one, third) == met(other, third) == 1


def are_six(numbers):
    """Whether six numbers are those of a six."""
    return all([met(one, other) == 0 for at, one in enumerate(numbers) for other in numbers[at + 1:]])


def sixes_from(chosen, free):
    """The ascending list of the sixes that are the chosen numbers and further ones of the free ones."""
    if len(chosen) == MANY_IN_SIX:
        return [chosen]
    told = []
    for at, number in enumerate(free):
        later = [other for other in free[at + 1:] if met(number, other) == 0]
        told.extend(sixes_from(chosen + (number,), later))
    return told


def partner_of_numbers(six):
    """The numbers of the partner of a six, in the order that goes with it."""
    return [partner_at(six, at) for at in range(MANY_IN_SIX)]


def partner_at(six, at):
    """The number of the name that meets all names of a six but the one at this place."""
    times = [0 if place == at else 1 for place in range(MANY_IN_SIX)]
    return [number for number in range(MANY_NAMES) if [met(number, one) for one in six] == times][0]


def is_array(rows):
    """Whether three rows of three numbers are those of an array."""
    if len(set([number for row in rows for number in row])) != 9:
        return False
    return all([is_trio(row) for row in rows]) and all([is_trio(column) for column in zip(*rows)])


def first_way(rows):
    """An array of numbers, told in the first of its ways."""
    return min(ascending_way(rows), ascending_way(list(zip(*rows))))


def ascending_way(rows):
    """The first way to tell an array without exchanging rows and columns."""
    # The row with the least number comes first; then the columns ascend along
    # it, and the rows along the first column, in which the least number stays first.
    least_first = sorted(rows, key=min)
    columns = sorted(zip(*least_first))
    return tuple(sorted(zip(*columns)))


def arrays_at(corner):
    """The list of the arrays of numbers whose first way begins with this one."""
    told = []
    pairs = pairs_beside(corner)
    for at, (right, far) in enumerate(pairs):
        for down, deep in pairs[at + 1:]:
            for middle in range(corner, MANY_NAMES):
                if middle != corner and met(middle, right) == 1 and met(middle, down) == 1:
                    told.append(filled((corner, right, far), down, deep, middle))
    return [rows for rows in told if min([min(row) for row in rows]) == corner]


def filled(top, down, deep, middle):
    """The array with this first row, the first column below it, and the number in its middle."""
    second = (down, middle, third_of_trio(down, middle))
    return (top, second, (deep, third_of_trio(top[1], middle), third_of_trio(top[2], second[2])))
