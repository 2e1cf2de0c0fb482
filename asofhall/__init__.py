"""Asofhall: questions about rows that are heard late, and every answer's finality."""
