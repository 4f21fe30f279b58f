"""Piecebounds: rows cut to so many pieces."""
