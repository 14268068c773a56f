"""Feastfall: a book of feasts in which a feast that meets a higher one gives way."""
