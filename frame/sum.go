package frame

// polynomial is the checksum's, but for x^32; its lowest bit is the coefficient of x^31.
const polynomial = 0xedb88320

// half is how many bits half a byte has, and halves how many different halves there are.
const (
	half   = 4
	halves = 1 << half
)

// Sum is a CRC-32.
func Sum(b []byte) uint32 { return sumOf(b) }

// sumOf is the checksum of parts that follow each other: a frame's are apart, with the checksum itself between them.
func sumOf(parts ...[]byte) uint32 {
	effect := effects()
	sum := ^uint32(0)
	for _, b := range parts {
		for _, c := range b {
			sum ^= uint32(c)
			sum = sum>>half ^ effect[sum%halves]
			sum = sum>>half ^ effect[sum%halves]
		}
	}
	return ^sum
}

// effects are what each half of a byte does to a checksum, once it was shifted out of it.
func effects() [halves]uint32 {
	var effect [halves]uint32
	for i := range halves {
		e := uint32(i)
		for range half {
			e = e>>1 ^ e%2*polynomial
		}
		effect[i] = e
	}
	return effect
}
