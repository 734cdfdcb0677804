"""The bounds that the document's points set."""

# Point 5: 2 ** 48, how many words there are. Written out, since a file's top holds plain values alone.
WORDS = 281474976710656

# Point 6: how many numbers of pages, 2 ** 40, and how many marks a row can have.
PAGES = 1099511627776
MARKS = 256

# Point 7: how many a place's part can be, and how many places there are.
PARTS = 8
PLACES = 512

# Point 8: how many words a page has, and how many pages a memory has at most.
CELLS = 8
MOST_PAGES = 24

# Point 12: how many rows a shelf keeps at most.
SEATS = 12

# Point 15: how many registers there are, how many rows a program has at most, and how many numbers of rows, that
# behind the last one among them, a row or an entry can name.
REGISTERS = 4
ORDERS = 60
ENTRIES = 61

# Point 17: how many counts of steps a turn can be told, from 0 to 500.
STEPS = 501

# Point 19: how many frames there are at most.
FRAMES = 200
