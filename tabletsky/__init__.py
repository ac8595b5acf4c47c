"""Tabletsky: tables of the sky."""
