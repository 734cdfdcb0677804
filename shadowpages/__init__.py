"""Shadowpages: machines with tables of pages, kept within one machine."""
