"""The bounds that the document's points set."""

# Point 5: 2 ** 48, how many words there are. Written out, since a file's top holds plain values alone.
WORDS = 281474976710656
