"""Wholefract: fractions that reckon."""
