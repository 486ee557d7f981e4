"""Seedcup: questions about a knockout cup with seeded players."""
