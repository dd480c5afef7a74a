"""Wholecut: the greatest gain of whole numbers within rows."""
