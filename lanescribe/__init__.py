"""Lanescribe: events noted on lanes by writers that break in upon one another, and read while they are written."""
