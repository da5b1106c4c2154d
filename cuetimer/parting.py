"""Words parted into rows at the least price, with a table that shows that none costs less.

What stands at [k][j] of the table is the least price of parting the first j
words into just k rows, or None.
"""

from cuetimer.errors import NoParting
from cuetimer.kinds import is_whole


def parting_price(rows, wide):
    return sum([row_price(row, wide) for row in rows]) + sum([break_price(row) for row in rows[:-1]])


def parting_table(words, wide, most):
    pieces = pieces_of(words, wide)
    table = [[0] + [None] * len(words.split(" "))]
    for k in range(most):
        table.append(list_below(pieces, table[k]))
    return table


def parted(words, wide, most):
    table = parting_table(words, wide, most)
    least = least_at_the_end(table)
    if least is None:
        raise NoParting("these words can't be parted so")
    lasts = [prices[-1] for prices in table]
    return rows_back(words, pieces_of(words, wide), table, lasts.index(least))


def lets_parting(words, wide, most, rows, table):
    if not is_parting(words, wide, most, rows) or not is_table(len(words.split(" ")), most, table):
        return False
    for piece in pieces_of(words, wide):
        for above, below in zip(table, table[1:]):
            if not is_reached(piece, above, below):
                return False
    return least_at_the_end(table) == parting_price(rows, wide)


def row_price(row, wide):
    return (wide - len(row)) * (wide - len(row))


def break_price(text):
    if text[-1] in ".!?":
        return 0
    return 50 if text[-1] in ",;:" else 200


def pieces_of(words, wide):
    # A piece is a tuple (i, j, price): the words behind the i-th, up to the j-th, as a row, with the break behind it.
    parts = words.split(" ")
    pieces = []
    for i in range(len(parts)):
        row = parts[i]
        j = i + 1
        while len(row) <= wide and j < len(parts):
            pieces.append((i, j, row_price(row, wide) + break_price(row)))
            row = row + " " + parts[j]
            j += 1
        if len(row) <= wide:
            pieces.append((i, j, row_price(row, wide)))
    return pieces


def list_below(pieces, above):
    below = [None] * len(above)
    for i, j, price in pieces:
        if above[i] is not None and (below[j] is None or above[i] + price < below[j]):
            below[j] = above[i] + price
    return below


def least_at_the_end(table):
    return min([prices[-1] for prices in table[1:] if prices[-1] is not None], default=None)


def rows_back(words, pieces, table, k):
    parts = words.split(" ")
    end = len(parts)
    rows = []
    while k > 0:
        begin = begin_of_row(pieces, table[k - 1], end, table[k][end])
        rows.append(" ".join(parts[begin:end]))
        end = begin
        k -= 1
    return list(reversed(rows))


def begin_of_row(pieces, above, end, told):
    begins = [i for i, j, price in pieces if j == end and above[i] is not None and above[i] + price == told]
    return begins[0]


def is_parting(words, wide, most, rows):
    if not isinstance(rows, list) or len(rows) > most or not all([isinstance(row, str) for row in rows]):
        return False
    # Words are parted by one blank each, so rows that come to them again are made of whole words.
    return " ".join(rows) == words and all([len(row) <= wide for row in rows])


def is_table(many, most, table):
    if not isinstance(table, list) or len(table) != most + 1:
        return False
    return all([are_prices(many, prices) for prices in table]) and table[0][0] == 0


def are_prices(many, prices):
    if not isinstance(prices, list) or len(prices) != many + 1:
        return False
    return all([price is None or is_whole(price) for price in prices])


def is_reached(piece, above, below):
    if above[piece[0]] is None:
        return True
    return below[piece[1]] is not None and below[piece[1]] <= above[piece[0]] + piece[2]
