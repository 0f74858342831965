package digest

// steps are the numbers k, one for each step of a block.
var steps = [64]uint32{
	0x428a2f98, 0x71374491, 0xb5c0fbcf, 0xe9b5dba5, 0x3956c25b, 0x59f111f1, 0x923f82a4, 0xab1c5ed5,
	0xd807aa98, 0x12835b01, 0x243185be, 0x550c7dc3, 0x72be5d74, 0x80deb1fe, 0x9bdc06a7, 0xc19bf174,
	0xe49b69c1, 0xefbe4786, 0x0fc19dc6, 0x240ca1cc, 0x2de92c6f, 0x4a7484aa, 0x5cb0a9dc, 0x76f988da,
	0x983e5152, 0xa831c66d, 0xb00327c8, 0xbf597fc7, 0xc6e00bf3, 0xd5a79147, 0x06ca6351, 0x14292967,
	0x27b70a85, 0x2e1b2138, 0x4d2c6dfc, 0x53380d13, 0x650a7354, 0x766a0abb, 0x81c2c92e, 0x92722c85,
	0xa2bfe8a1, 0xa81a664b, 0xc24b8b70, 0xc76c51a3, 0xd192e819, 0xd6990624, 0xf40e3585, 0x106aa070,
	0x19a4c116, 0x1e376c08, 0x2748774c, 0x34b0bcb5, 0x391c0cb3, 0x4ed8aa4a, 0x5b9cca4f, 0x682e6ff3,
	0x748f82ee, 0x78a5636f, 0x84c87814, 0x8cc70208, 0x90befffa, 0xa4506ceb, 0xbef9a3f7, 0xc67178f2,
}

// turn is x turned right by n bits.
func turn(x uint32, n uint) uint32 { return x>>n | x<<(32-n) }

// filling is what stands behind a text of many bytes, for it to be filled up.
func filling(many uint64) []byte {
	out := []byte{128}
	for (many+uint64(len(out))+8)%block != 0 {
		out = append(out, 0)
	}
	bits := many * 8
	for shift := 56; shift >= 0; shift -= 8 {
		out = append(out, byte(bits>>shift))
	}
	return out
}

// spread is the 64 numbers of a block.
func spread(b [block]byte) [64]uint32 {
	var w [64]uint32
	for i := range 16 {
		w[i] = uint32(b[4*i])<<24 | uint32(b[4*i+1])<<16 | uint32(b[4*i+2])<<8 | uint32(b[4*i+3])
	}
	for i := 16; i < 64; i++ {
		x, y := w[i-15], w[i-2]
		s0 := turn(x, 7) ^ turn(x, 18) ^ x>>3
		s1 := turn(y, 17) ^ turn(y, 19) ^ y>>10
		w[i] = w[i-16] + s0 + w[i-7] + s1
	}
	return w
}

// mix is the eight numbers behind a block with the numbers w.
func mix(sums [8]uint32, w [64]uint32) [8]uint32 {
	a, b, c, d, e, f, g, h := sums[0], sums[1], sums[2], sums[3], sums[4], sums[5], sums[6], sums[7]
	for i := range 64 {
		t := h + (turn(e, 6) ^ turn(e, 11) ^ turn(e, 25)) + ((e & f) ^ (^e & g)) + steps[i] + w[i]
		u := (turn(a, 2) ^ turn(a, 13) ^ turn(a, 22)) + ((a & b) ^ (a & c) ^ (b & c))
		h, g, f, e, d, c, b, a = g, f, e, d+t, c, b, a, t+u
	}
	return [8]uint32{
		sums[0] + a, sums[1] + b, sums[2] + c, sums[3] + d,
		sums[4] + e, sums[5] + f, sums[6] + g, sums[7] + h,
	}
}
