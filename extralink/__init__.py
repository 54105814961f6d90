"""Extralink: can an extra link ever slow all requests?"""
