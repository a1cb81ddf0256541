import unittest

import plain_covers
import samples
from flagfloors.covers import check_cover, covers, normal_cover
from flagfloors.decks import cover_leads, decks, is_regular

ONE = ((0,), (0,), (0,), (12,), (12,))
TWO = [pattern for pattern in samples.small_patterns(2) if len(pattern[0]) == 2]
PAIRS = [(ONE, 2), (ONE, 3), (ONE, 4), (samples.CUBE, 2), (samples.CUBE, 3), (samples.CUBE, 4)]
PAIRS += [(pattern, sheets) for pattern in TWO[::5] for sheets in (1, 2, 3)]


def some_covers():
    found = []
    for pattern, sheets in PAIRS:
        for cover in covers(pattern, sheets)[:12]:
            found.append((pattern, sheets, cover))
            listing = tuple(range(len(cover[1])))[::-1]
            found.append((pattern, sheets, plain_covers.numbered(cover, listing)))
    return found


class Decks(unittest.TestCase):
    def test_against_all_rows(self):
        kinds = set()
        for pattern, sheets, cover in some_covers():
            check_cover(pattern, cover)
            found = decks(cover)
            self.assertEqual(found, plain_covers.plain_cover_leads(cover, cover))
            self.assertIs(is_regular(cover), len(found) == sheets)
            self.assertLessEqual(len(found), sheets)
            kinds.add((sheets, len(found)))
        # Covers without other decks, with all, and with some but not all.
        self.assertLessEqual({(1, 1), (2, 2), (3, 1), (4, 1), (4, 2), (4, 4)}, kinds)

    def test_whole_bodies(self):
        cube = samples.plain_glued(samples.CUBE_TILES)
        cover = (cube, (0,) * 48)
        self.assertEqual(len(decks(cover)), 48)
        self.assertEqual([row[0] for row in decks(cover)], list(range(48)))
        self.assertIs(is_regular(cover), True)
        # Over the turns alone, the mirrors are no decks.
        turns = covers(samples.CUBE, 2)
        below = [above for above, _ in turns if all(s[0] == 1 for s in above[:3])][0]
        lead = cover_leads(cover, (below, (0, 0)))[0]
        self.assertEqual(len(decks((cube, lead))), 24)
        self.assertIs(is_regular((cube, lead)), True)

    def test_one_sheet(self):
        for pattern in (samples.TORUS, samples.ring(120), samples.path(7)):
            size = len(pattern[0])
            # All selves of the pattern but one carry some flag to another one below.
            cover = (pattern, tuple(range(size)))
            self.assertEqual(decks(cover), (tuple(range(size)),))
            self.assertIs(is_regular(cover), True)


class CoverLeads(unittest.TestCase):
    def test_equal_and_unlike_numbers_of_sheets(self):
        many = set()
        for pattern in (ONE, samples.CUBE, TWO[0], TWO[-1]):
            lots = [covers(pattern, sheets) for sheets in (1, 2, 3)]
            if len(pattern[0]) == 1:
                lots.append(covers(pattern, 4))
            for a in [cover for lot in lots for cover in lot[:6]]:
                for b in [cover for lot in lots for cover in lot[:6]]:
                    found = cover_leads(a, b)
                    self.assertEqual(found, plain_covers.plain_cover_leads(a, b))
                    self.assertEqual(list(found), sorted(found))
                    if len(a[1]) == len(b[1]):
                        self.assertEqual(len(found) > 0, normal_cover(a) == normal_cover(b))
                    else:
                        many.add((len(a[1]), len(b[1]), len(found)))
        self.assertTrue(any(n > m and found for n, m, found in many))
        self.assertTrue(any(n > m and not found for n, m, found in many))
        self.assertFalse(any(n < m and found for n, m, found in many))

    def test_not_in_normal_form(self):
        for pattern, _, cover in some_covers()[::3]:
            size = len(cover[1])
            other = plain_covers.numbered(cover, tuple(range(size))[::-1])
            self.assertEqual(cover_leads(cover, other),
                             plain_covers.plain_cover_leads(cover, other))
            self.assertGreater(len(cover_leads(cover, other)), 0)
            self.assertEqual(len(cover_leads(other, cover)), len(decks(cover)))
            one = (pattern, tuple(range(len(pattern[0]))))
            self.assertEqual(cover_leads(cover, one), (cover[1],))
