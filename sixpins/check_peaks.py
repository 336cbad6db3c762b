"""Whether papers show that a form has no other peak."""

from sixpins.check_lines import is_whole
from sixpins.checks import is_integers, is_list
from sixpins.cubics import common_on, factor_at, slopes_at_row
from sixpins.given import given_cubic, given_rows
from sixpins.integers import leading_place
from sixpins.peaks import NoOtherPeak
from sixpins.powers import value_at
from sixpins.space import is_line, is_on, shares_on
from sixpins.written import pair_product, space_slopes


def shows_peaks(form, places, value):
    """Whether any value is a NoOtherPeak that shows that the list of places has all peaks of the form."""
    told = given_cubic(form, "form")
    peaks = given_rows(places, 0, None, 4, "places")
    if not isinstance(value, NoOtherPeak) or not has_peak_parts(value):
        return False
    if not are_unlike_peaks(told, peaks) or not is_whole(told, value.lines, value.alone):
        return False
    slopes = space_slopes(told)
    return all([is_common(slopes, line, common) and is_made_of(common, factors_along(line, peaks))
                for line, common in zip(value.lines, value.commons)])


def has_peak_parts(told):
    """Whether the lines and the common forms of a NoOtherPeak are of the kinds that are told."""
    if not is_list(told.lines, 0, None) or not is_list(told.commons, len(told.lines), len(told.lines)):
        return False
    return all([is_line(line) for line in told.lines])


def are_unlike_peaks(form, places):
    """Whether the places are unlike, and each is a peak of the form."""
    slopes = space_slopes(form)
    return len(set(places)) == len(places) and all([leading_place(slopes_at_row(slopes, place)) is None
                                                    for place in places])


def is_common(slopes, line, value):
    """Whether any value is the common form of a line on a form with these slopes, which must not be ()."""
    common = common_on(slopes, line)
    return common != () and is_integers(value, len(common)) and tuple(value) == common


def factors_along(line, places):
    """The factors of those of the places that are on a reduced line."""
    return [factor_at(shares_on(line, place)) for place in places if is_on(line, place)]


def is_made_of(common, factors):
    """Whether a common form is a number times a product of some of the factors, one of them perhaps twice."""
    dividing = [factor for factor in factors if value_at(common, len(common) - 1, (factor[1], -factor[0])) == 0]
    if len(common) == 1:
        return True
    if len(common) == 2:
        return common in dividing
    return list(common) in [pair_product(one, other) for one in dividing for other in dividing]
