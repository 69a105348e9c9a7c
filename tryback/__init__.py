"""Tryback: search codes that take back behind a try."""
