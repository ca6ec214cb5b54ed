"""Limbtables: tables along the arrows of a drawing, taken apart into plain parts."""
