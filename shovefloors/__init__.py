"""Shovefloors: shapes that fill the whole plane by shoves."""
