"""Texts: tuples of bytes, so that Python's own order of tuples is the order of texts."""

LINE_END = 10


def text_of(words):
    """The bytes of a written text."""
    return tuple([ord(sign) for sign in words])


def are_bytes(numbers):
    return all([0 <= number <= 255 for number in numbers])


def texts_of(row):
    """The texts of a list of texts, or None if it isn't one."""
    texts = []
    place = 0
    while place < len(row):
        length = row[place]
        start = place + 1
        if length < 0 or length > len(row) - start:
            return None
        text = row[start:start + length]
        if not are_bytes(text):
            return None
        texts.append(text)
        place = start + length
    return texts


def lines_of(texts):
    lines = []
    for text in texts:
        lines.extend(text)
        lines.append(LINE_END)
    return lines


def parts_between(text, byte):
    """The parts of the text with the byte between them; one part if the byte isn't there."""
    parts = []
    start = 0
    for place, found in enumerate(text):
        if found == byte:
            parts.append(text[start:place])
            start = place + 1
    parts.append(text[start:])
    return parts
