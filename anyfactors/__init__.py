"""Anyfactors: what follows from readings when only the shape of equations is known."""
