"""Papers numbered by desks, what an auditor can be sure of, and the least looks for the rest."""
