"""Graph rules: what targets may depend on, and which rule is broken first."""
