package copse

import "copse/api"

// Export writes functions (P9).
func (c *Copse) Export(format int, roots []int) (string, api.Errno) { return "", api.OK }

// Import reads functions (P10).
func (c *Copse) Import(format int, bytes string) ([]int, api.Errno) { return nil, api.OK }
