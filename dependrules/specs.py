"""Specs: which packages they admit."""

from dependrules.labels import ROOT
from dependrules.labels import is_name_byte
from dependrules.labels import is_package
from dependrules.labels import is_path
from dependrules.labels import is_within

NAME_BYTES = 32

# The bytes of: public
PUBLIC = (112, 117, 98, 108, 105, 99)
# The bytes of: //...
EVERYWHERE = (47, 47, 46, 46, 46)
# The bytes of: /...
BELOW = (47, 46, 46, 46)
# The bytes of: group:
GROUP = (103, 114, 111, 117, 112, 58)


def is_group_name(text):
    return 1 <= len(text) <= NAME_BYTES and all([is_name_byte(byte) for byte in text])


def is_group_spec(text):
    return text[:len(GROUP)] == GROUP and is_group_name(text[len(GROUP):])


def ends_below(spec):
    # "..." is a part like others, so a spec of one package could end so too; it's never read that way.
    return spec[-len(BELOW):] == BELOW


def is_plain_spec(text):
    """Whether the text is a spec, but not one of a group."""
    if text == PUBLIC or text == EVERYWHERE:
        return True
    if text[:len(ROOT)] != ROOT:
        return False
    if ends_below(text):
        return is_path(text[len(ROOT):-len(BELOW)])
    return is_package(text[len(ROOT):])


def is_spec(text):
    return is_plain_spec(text) or is_group_spec(text)


def plain_spec_admits(spec, package):
    if spec == PUBLIC or spec == EVERYWHERE:
        return True
    if ends_below(spec):
        return is_within(package, spec[len(ROOT):-len(BELOW)])
    return spec[len(ROOT):] == package


def spec_admits(spec, package, groups):
    """Whether the spec admits the package, with these specs of each group's name."""
    if spec[:len(GROUP)] != GROUP:
        return plain_spec_admits(spec, package)
    members = groups.get(spec[len(GROUP):], [])
    return any([plain_spec_admits(member, package) for member in members])
