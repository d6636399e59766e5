"""Undercells: orders below one another, and what stands between them."""
