"""Tabstops: rows of text with stops."""
