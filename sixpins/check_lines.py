"""Whether papers show fans, and that no other line lies on a form."""

from sixpins.checks import is_integer, is_list, is_plain
from sixpins.fans import Fan, factors_product, fifth_or_none
from sixpins.forms import is_along
from sixpins.given import given_cubic, given_lines
from sixpins.integers import crossing, leading_place, plain, plain_or_none
from sixpins.noother import NoOther
from sixpins.powers import form_on, product_of_firsts
from sixpins.space import is_line, within_plane


def shows_fan(form, value):
    """Whether any value is a Fan that is a fan of its line on the form."""
    return is_fan(given_cubic(form, "form"), value)


def shows_all(form, lines, value):
    """Whether any value is a NoOther that shows that the list of lines is whole for the form."""
    told = given_cubic(form, "form")
    return is_whole(told, given_lines(lines, "lines"), value)


def is_fan(form, value):
    """Whether any value is a Fan that is a fan of its line on a form that is not all 0."""
    if not isinstance(value, Fan) or not has_fan_parts(value):
        return False
    if not all([cuts_out(form, five[0], (value.line, five[1], five[2])) for five in value.fives]):
        return False
    factors = factors_product(value.line, [five[0] for five in value.fives])
    return fifth_or_none(form, value.line) == tuple([value.scale * number for number in factors])


def has_fan_parts(fan):
    """Whether the parts of a Fan are of the kinds that are told."""
    if not is_line(fan.line) or not is_list(fan.fives, 5, 5):
        return False
    return all([is_five(five) for five in fan.fives]) and is_integer(fan.scale) and fan.scale != 0


def is_five(value):
    """Whether any value is a plane and two lines."""
    return is_list(value, 3, 3) and is_plain(value[0], 4) and is_line(value[1]) and is_line(value[2])


def cuts_out(form, plane, lines):
    """Whether a form, on a plane, is a number, not 0, times the product of three that are 0 just on these lines."""
    if not all([within_plane(line, plane) for line in lines]):
        return False
    # A place of the plane, times the plane's integer at left, is the sum of these
    # rows, each times the place's integer at `at`: three letters tell it.
    left = leading_place(plane)
    rows = [tilted(plane, left, at) for at in range(4) if at != left]
    firsts = [crossing(without(one, left), without(other, left)) for one, other in lines]
    return plain_or_none(form_on(form, 4, 3, rows)) == plain(product_of_firsts(firsts))


def tilted(plane, left, at):
    """The row of the plane that is 0 everywhere but at two places."""
    row = [0, 0, 0, 0]
    row[at] = plane[left]
    row[left] = -plane[at]
    return tuple(row)


def without(row, left):
    """The row without its integer at a place."""
    return row[:left] + row[left + 1:]


def is_whole(form, lines, value):
    """Whether any value is a NoOther that shows that reduced lines are whole for a form that is not all 0."""
    if not isinstance(value, NoOther) or not has_plane_parts(value):
        return False
    if len(set(lines)) != len(lines) or not all([is_along(form, line) for line in lines]):
        return False
    return has_fans(form, lines, value) and cuts_out(form, value.plane, value.lines)


def has_plane_parts(told):
    """Whether the plane and the lines of a NoOther are of the kinds that are told."""
    return is_plain(told.plane, 4) and is_list(told.lines, 3, 3) and all([is_line(line) for line in told.lines])


def has_fans(form, lines, told):
    """Whether a NoOther has just one fan for each of its lines, and all its lines are among these."""
    many = len(set(told.lines))
    if not is_list(told.fans, many, many) or not all([is_fan(form, fan) for fan in told.fans]):
        return False
    if sorted([fan.line for fan in told.fans]) != sorted(set(told.lines)):
        return False
    further = [line for fan in told.fans for five in fan.fives for line in five[1:]]
    return all([line in lines for line in list(told.lines) + further])
