"""Instances: templates that compute. A compiler's part; each module has its own functions."""
