"""Foldlook: what small machines make of values, and what filters ask of it."""
