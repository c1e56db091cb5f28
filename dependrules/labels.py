"""Paths, packages and labels."""

from dependrules.texts import parts_between

SLASH = 47
COLON = 58
DOT = 46
UNDERSCORE = 95
MINUS = 45

PART_BYTES = 32
PATH_PARTS = 8
PATH_BYTES = 96

# The bytes of: //
ROOT = (47, 47)
# The bytes of: . and ..
NO_PARTS = ((46,), (46, 46))


def is_name_byte(byte):
    """Whether a group's name may have the byte; a part may have a dot too."""
    if 97 <= byte <= 122 or 65 <= byte <= 90:
        return True
    return 48 <= byte <= 57 or byte == UNDERSCORE or byte == MINUS


def is_part(text):
    if not 1 <= len(text) <= PART_BYTES or text in NO_PARTS:
        return False
    return all([byte == DOT or is_name_byte(byte) for byte in text])


def is_path(text):
    if len(text) > PATH_BYTES:
        return False
    parts = parts_between(text, SLASH)
    return len(parts) <= PATH_PARTS and all([is_part(part) for part in parts])


def is_package(text):
    return len(text) == 0 or is_path(text)


def is_label(text):
    if text[:len(ROOT)] != ROOT or COLON not in text:
        return False
    colon = text.index(COLON)
    return is_package(text[len(ROOT):colon]) and is_path(text[colon + 1:])


def package_of(label):
    return label[len(ROOT):label.index(COLON)]


def is_within(inner, outer):
    """Whether the package inner is within the package outer."""
    if len(outer) == 0 or inner == outer:
        return True
    return inner[:len(outer) + 1] == outer + (SLASH,)
