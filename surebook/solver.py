"""The loads that fit a list of gains and make a mean greatest, or the multiples that show that there are none."""

from surebook.ratios import NOUGHT, ONE, common_bottom, ratio, under, whole_by
from surebook.rows import cut, mean, paper_of, total
from surebook.tables import driven, end_of, first_table, number_at


def loads_fit(loads, rows):
    return not any([under(NOUGHT, mean(loads, row)) for row in rows])


def lie_on(loads, event):
    return total(cut(loads, event)) == ONE


def whole_line(row, end):
    return whole_by(row, common_bottom(row)) + [end]


def start(count, rows, event, goal):
    lines = [whole_line(row, 0) for row in rows]
    lines.append(whole_line(paper_of(count, event), 1))
    lines.append(whole_line(goal, 0))
    return first_table(lines)


def shown_multiples(count, rows, table, owner, bottom):
    """The multiples of the gains that were added to the owner's line, which had been multiplied by bottom."""
    told = []
    for number, row in enumerate(rows):
        # Each gain was made whole in the table, so its multiple grows by what the gain was multiplied by.
        top = -number_at(table, owner, count + number) * common_bottom(row)
        told.append(ratio(top, bottom * table.bottom))
    return told


def solve(count, rows, event, aim):
    goal = cut(aim, event)
    lack = count + len(rows)
    table = driven(start(count, rows, event, goal), lack)
    if lack in table.owners:
        return ("none", shown_multiples(count, rows, table, lack, 1))
    table = driven(table, lack + 1)
    bottom = common_bottom(goal)
    # The aim's line keeps what is still to be gained, so its end is the value turned.
    value = ratio(-end_of(table, lack + 1), bottom * table.bottom)
    loads = tuple([ratio(end_of(table, world), table.bottom) for world in range(count)])
    return ("most", value, loads, shown_multiples(count, rows, table, lack + 1, bottom))
