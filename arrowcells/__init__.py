"""Arrowcells: memory as chains of cells, and what holds for all stores."""
