"""Surershares: samplers of records by keys."""
