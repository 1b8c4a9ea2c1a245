"""Rows of brackets, trees and partings, each one number."""
