package labels

import "lookout/api"

const (
	hashStart  = 2166136261
	hashFactor = 16777619
)

// Hash returns the hash of a label set, from 0 to 2 to the power of 32, less 1.
func Hash(l []api.Label) int {
	return HashString(Format(l))
}

// HashString returns the hash of a string.
func HashString(s string) int {
	h := uint32(hashStart)
	for i := range len(s) {
		h = (h ^ uint32(s[i])) * hashFactor
	}
	return int(h)
}
