"""Tubes and custody: see tubebook.custody."""
