"""Surepieces: what stands in every ring text that has just these windows."""
