"""Equations between terms: rewriting, completion, derivations and finite models."""
