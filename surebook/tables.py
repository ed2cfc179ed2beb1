"""Tables of whole numbers, in which lines and columns change places until nothing helps any more.

Each thing that is reckoned with has a number: first the worlds, then the gains, then what lacks, then the aim. At any
time a thing has either a line (it is one of the owners) or a column (it is one of the heads). A line says that its
owner times the table's bottom and its numbers times the heads together come to its end, which stands last in it. The
heads count as nought, so an owner is its line's end divided by the bottom.
"""


class Table:
    def __init__(self, lines, owners, heads, bottom, lack):
        self.lines = lines
        self.owners = owners
        self.heads = heads
        self.bottom = bottom
        self.lack = lack


def first_table(lines):
    """Of whole lines, the end last in each: those of the gains, then that of what lacks, then that of the aim."""
    width = len(lines[0]) - 1
    owners = list(range(width, width + len(lines)))
    return Table(lines, owners, list(range(width)), 1, owners[-2])


def line_of(table, owner):
    return table.lines[table.owners.index(owner)]


def end_of(table, thing):
    return line_of(table, thing)[-1] if thing in table.owners else 0


def number_at(table, owner, thing):
    """What stands in the owner's line at the thing's column, nought where it has none."""
    return line_of(table, owner)[table.heads.index(thing)] if thing in table.heads else 0


def helping(table, owner):
    """The column of the first head that helps the owner, or None."""
    # What lacks never comes in again: it is to stay nought once it has gone out.
    found = [
        head for head, number in zip(table.heads, line_of(table, owner)) if number > 0 and head != table.lack
    ]
    return table.heads.index(min(found)) if found else None


def goes_ahead(table, column, one, other):
    """Whether the line at one goes out rather than that at other when the column comes in."""
    mine = table.lines[one][-1] * table.lines[other][column]
    theirs = table.lines[other][-1] * table.lines[one][column]
    if mine == theirs:
        # Ends are often nought; always taking the first owner then keeps any table from coming twice.
        return table.owners[one] < table.owners[other]
    return mine < theirs


def going_out(table, column):
    """The place of the line that goes out when the column comes in."""
    first = None
    for place, owner in enumerate(table.owners):
        # The aim, behind what lacks, is what is made greatest, and never goes out.
        if owner <= table.lack and table.lines[place][column] > 0:
            if first is None or goes_ahead(table, column, place, first):
                first = place
    return first


def replaced(numbers, place, number):
    told = list(numbers)
    told[place] = number
    return told


def freed(line, key_line, column, bottom):
    """The line with the key line's owner at the column, in the place of the head that comes in."""
    key = key_line[column]
    by = line[column]
    # All numbers are minors of the first table, so that this division leaves no rest.
    told = [(number * key - by * other) // bottom for number, other in zip(line, key_line)]
    return replaced(told, column, -by)


def exchanged(table, place, column):
    """The table in which the owner of the line at place and the head of the column have changed places."""
    key_line = table.lines[place]
    lines = [freed(line, key_line, column, table.bottom) for line in table.lines]
    return Table(
        replaced(lines, place, replaced(key_line, column, table.bottom)),
        replaced(table.owners, place, table.heads[column]),
        replaced(table.heads, column, table.owners[place]),
        key_line[column],
        table.lack,
    )


def driven(table, owner):
    """The table behind all exchanges that help the owner; it ends early where the owner goes out itself."""
    while owner in table.owners:
        column = helping(table, owner)
        if column is None:
            return table
        table = exchanged(table, going_out(table, column), column)
    return table
