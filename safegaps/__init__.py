"""Safegaps: pages made from forms with gaps."""
