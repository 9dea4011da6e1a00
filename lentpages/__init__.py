"""Lentpages: a machine's memory with lent pages, paging and crash recovery."""
