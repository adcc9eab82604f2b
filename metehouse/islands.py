"""Islands: the rows and columns of a plate that wells of one form tie together."""


def islands(plate, form):
    """The islands, pairs of the ascending tuples of their rows and columns."""
    grid = plate.grid
    island_of_row = list(range(grid.rows))
    island_of_column = [grid.rows + column for column in range(grid.columns)]
    for row, column, own in plate.spots:
        if own == form:
            # The lower number stays, so an island with rows has the number of its least row.
            kept = min(island_of_row[row], island_of_column[column])
            gone = max(island_of_row[row], island_of_column[column])
            island_of_row = [kept if number == gone else number for number in island_of_row]
            island_of_column = [kept if number == gone else number for number in island_of_column]
    found = []
    for number in range(grid.rows + grid.columns):
        rows = tuple([row for row in range(grid.rows) if island_of_row[row] == number])
        columns = tuple([column for column in range(grid.columns) if island_of_column[column] == number])
        if rows or columns:
            found.append((rows, columns))
    return found
