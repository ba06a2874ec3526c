"""Sheets that are kept while they grow and are taken back."""
