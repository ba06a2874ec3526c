"""Kinds: which makers make their trees, of which parts."""
