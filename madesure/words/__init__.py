"""Sheets, terms and formulas as texts, and a desk that is told rows of text."""
