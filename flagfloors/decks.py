"""Leads between covers of one pattern that keep the flags below."""

from flagfloors.leads import leads


def decks(cover):
    """Return the selves that carry each flag to one that lies over the same flag, ascending."""
    return cover_leads(cover, cover)


def is_regular(cover):
    """Tell whether there are as many decks as sheets."""
    return len(decks(cover)) == cover[1].count(0)


def cover_leads(a, b):
    """Return the leads from a cover to another one over the same flags, ascending."""
    above, lead = a
    other, other_lead = b
    # Both ways down are leads, which agree if they do at one flag.
    return tuple([row for row in leads(above, other) if other_lead[row[0]] == lead[0]])
