"""Trees of kinds, their sizes, their order and their parts."""
