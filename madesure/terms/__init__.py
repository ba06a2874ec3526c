"""Names, terms, formulas and sheets, and what they mean by an answer."""
