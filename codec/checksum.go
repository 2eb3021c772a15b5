package codec

// remainders are those of the half bytes, with the polynomial 0xEDB88320 (bits reversed).
var remainders = [16]uint32{
	0x00000000, 0x1DB71064, 0x3B6E20C8, 0x26D930AC,
	0x76DC4190, 0x6B6B51F4, 0x4DB26158, 0x5005713C,
	0xEDB88320, 0xF00F9344, 0xD6D6A3E8, 0xCB61B38C,
	0x9B64C2B0, 0x86D3D2D4, 0xA00AE278, 0xBDBDF21C,
}

// Checksum returns the CRC-32 of IEEE 802.3.
func Checksum(b []byte) uint32 {
	sum := ^uint32(0)
	for _, x := range b {
		sum ^= uint32(x)
		sum = sum>>4 ^ remainders[sum&15]
		sum = sum>>4 ^ remainders[sum&15]
	}
	return ^sum
}
