"""Numbersay: tongues in which numbers are said."""
