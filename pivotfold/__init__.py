"""Pivotfold: tables folded wide, unfolded, added up along, and kept."""
