"""Tables: squares of whole numbers, tuples of rows."""


def table_of(many, number):
    """The table of so many rows with the number from corner to corner, and 0 else."""
    return tuple([tuple([number if at == beside else 0 for beside in range(many)]) for at in range(many)])


def table_times(one, other):
    """The product of two tables of as many rows."""
    columns = list(zip(*other))
    return tuple([
        tuple([row_times(numbers, column) for column in columns])
        for numbers in one
    ])


def table_plus(one, other):
    """The sum of two tables of as many rows."""
    return tuple([
        tuple([left + right for left, right in zip(numbers, beside)])
        for numbers, beside in zip(one, other)
    ])


def corner_sum(table):
    """The sum of the numbers from corner to corner."""
    return sum(numbers[at] for at, numbers in enumerate(table))


def row_times(one, other):
    """The sum of the products of two rows of as many whole numbers."""
    return sum(left * right for left, right in zip(one, other))


def square_by(table, numbers):
    """The row times the table times the row."""
    return row_times(numbers, [row_times(weights, numbers) for weights in table])
