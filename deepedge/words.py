"""How many words there are in which certain letters occur."""


def surjections(length, letters):
    """Return the number of words of this length in which each of so many letters occurs, and no other one."""
    return covering(length, letters, letters)


def covering(length, letters, needed):
    """Return the number of words of this length over so many letters in which the needed ones of them occur."""
    if length < 0 or needed > letters:
        return 0
    return covering_table(length, letters)[length][needed]


def covering_table(length, letters):
    """Return a list with a row for each length up to this one: what `covering` tells for 0, 1, 2 .. needed letters."""
    row = [1] + [0] * letters
    table = [row]
    for _ in range(length):
        # A word begins with a letter that is not needed, or with one that the rest of the word then need not have.
        row = [(letters - needed) * same + needed * less for needed, (same, less) in enumerate(zip(row, [0] + row))]
        table.append(row)
    return table
