"""Whether papers show fans, and that no other line lies on a form."""

from sixpins.checks import is_integer, is_list, is_plain
from sixpins.cubics import fifth_by, free_places, is_cut, lies_by
from sixpins.fans import Fan, factors_product
from sixpins.given import given_cubic, given_lines
from sixpins.noother import NoOther
from sixpins.space import is_line, within_plane
from sixpins.written import space_slopes


def shows_fan(form, value):
    """Whether any value is a Fan that is a fan of its line on the form."""
    told = given_cubic(form, "form")
    return is_fan(told, space_slopes(told), value)


def shows_all(form, lines, value):
    """Whether any value is a NoOther that shows that the list of lines is whole for the form."""
    told = given_cubic(form, "form")
    return is_whole(told, given_lines(lines, "lines"), value)


def is_fan(form, slopes, value):
    """Whether any value is a Fan that is a fan of its line on a form with these slopes that is not all 0."""
    if not isinstance(value, Fan) or not has_fan_parts(value) or not lies_by(slopes, value.line):
        return False
    if not all([cuts_out(form, five[0], (value.line, five[1], five[2])) for five in value.fives]):
        return False
    factors = factors_product(value.line, [five[0] for five in value.fives])
    fifth = fifth_by(form, slopes, value.line, free_places(value.line))
    return fifth == tuple([value.scale * number for number in factors])


def has_fan_parts(fan):
    """Whether the parts of a Fan are of the kinds that are told."""
    if not is_line(fan.line) or not is_list(fan.fives, 5, 5):
        return False
    return all([is_five(five) for five in fan.fives]) and is_integer(fan.scale) and fan.scale != 0


def is_five(value):
    """Whether any value is a plane and two lines."""
    return is_list(value, 3, 3) and is_plain(value[0], 4) and is_line(value[1]) and is_line(value[2])


def cuts_out(form, plane, lines):
    """Whether a form, on a plane, is a number, not 0, times the product of three that are 0 just on these lines."""
    return all([within_plane(line, plane) for line in lines]) and is_cut(form, plane, lines)


def is_whole(form, lines, value):
    """Whether any value is a NoOther that shows that reduced lines are whole for a form that is not all 0."""
    if not isinstance(value, NoOther) or not has_plane_parts(value):
        return False
    slopes = space_slopes(form)
    if len(set(lines)) != len(lines) or not all([lies_by(slopes, line) for line in lines]):
        return False
    return has_fans(form, slopes, lines, value) and cuts_out(form, value.plane, value.lines)


def has_plane_parts(told):
    """Whether the plane and the lines of a NoOther are of the kinds that are told."""
    return is_plain(told.plane, 4) and is_list(told.lines, 3, 3) and all([is_line(line) for line in told.lines])


def has_fans(form, slopes, lines, told):
    """Whether a NoOther has just one fan for each of its lines, and all its lines are among these."""
    many = len(set(told.lines))
    if not is_list(told.fans, many, many) or not all([is_fan(form, slopes, fan) for fan in told.fans]):
        return False
    if sorted([fan.line for fan in told.fans]) != sorted(set(told.lines)):
        return False
    further = [line for fan in told.fans for five in fan.fives for line in five[1:]]
    held = {line: True for line in lines}
    return all([line in held for line in list(told.lines) + further])
