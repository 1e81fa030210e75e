"""Refundtrees: books of skills that are taken with points and given back for a price."""
