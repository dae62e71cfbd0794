"""Trees that span webs."""
