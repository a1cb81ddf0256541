"""Flagfloors: patterns of tiles, told by finite tables of flags."""
