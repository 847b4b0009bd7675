"""Rows of numbers: how they are handed in and how they are answered."""


class Reader:
    """Takes whole numbers and rows from a list, one behind another, and leaves the list as it is."""

    def __init__(self, calls):
        self.calls = calls
        self.place = 0

    def is_at_end(self):
        return self.place >= len(self.calls)

    def take(self, size):
        """The next numbers, so many, as a tuple."""
        start = self.place
        self.place = start + size
        return tuple(self.calls[start:start + size])

    def take_number(self):
        return self.take(1)[0]

    def take_rows(self, size):
        """The next rows, so many; each has how many numbers it has ahead of it."""
        rows = []
        for place in range(size):
            rows.append(self.take(self.take_number()))
        return rows


def with_rows(first, rows):
    answer = [first]
    for row in rows:
        answer.append(len(row))
        answer.extend(row)
    return answer


def with_row(first, row):
    return with_rows(first, [row])
