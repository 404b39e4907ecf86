"""Words and lines of texts, and the numbers that they tell."""

from willinglift.errors import BadText

MOST_DIGITS = 31


def number_in(word):
    """The number that a word tells, None if it tells none."""
    if len(word) > MOST_DIGITS or not word.isascii() or not word.isdigit():
        return None
    return None if word != "0" and word[0] == "0" else int(word)


def numbers_in(words):
    """The tuple of the numbers that words tell, None if one of them tells none."""
    numbers = tuple([number_in(word) for word in words])
    return None if None in numbers else numbers


def row_in(line, many):
    """The tuple of so many numbers that the words of a line tell, None if it is not written so."""
    numbers = numbers_in(line.split(" "))
    return numbers if numbers is not None and len(numbers) == many else None


def written(numbers):
    """The line that tells numbers."""
    return " ".join([str(number) for number in numbers])


def headed_in(line, head):
    """The tuple of the numbers, one or more, that a line tells behind its head, None if it is not written so."""
    words = line.split(" ")
    return numbers_in(words[1:]) if words[0] == head and len(words) > 1 else None


def parts_of(text, sign):
    """The list of the parts of a text between the places where a sign stands."""
    if not isinstance(text, str):
        raise BadText(-1)
    return text.split(sign)


def standing_lines(head, numbers, standing, room):
    """The text of a standing of a house, or a tree, which numbers behind a head and the room tell."""
    lines = [head + " " + written(numbers), "room " + str(room), "lift " + str(standing.lift)]
    return "\n".join(lines + [written(group) for group in standing.groups])


def standing_rows(text, head, is_row):
    """The list of the rows of numbers that the lines of such a text tell; behind the head stands one, or a row."""
    rows = []
    for index, line in enumerate(parts_of(text, "\n")):
        row = standing_row(line, index, head, is_row)
        if row is None:
            raise BadText(index)
        rows.append(row)
    if len(rows) < 3:
        raise BadText(len(rows))
    return rows


def standing_row(line, index, head, is_row):
    """The row of one of these lines, None if it is not written so."""
    if index > 2:
        return row_in(line, 3)
    row = headed_in(line, (head, "room", "lift")[index])
    if row is not None and len(row) > 1 and not (index == 0 and is_row):
        return None
    return row
