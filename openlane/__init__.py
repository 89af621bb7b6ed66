"""Openlane: final lanes that a log without ends allows."""
