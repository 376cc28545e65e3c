// Package octet is layer 1: bytes as numbers and as hexadecimal digits.
package octet

const hexDigits = "0123456789abcdef"

// mostMany bounds Bytes, so that a caller's number cannot ask for any amount of memory.
const mostMany = 64

// Hex returns two lower-case hexadecimal digits for each byte of b.
func Hex(b []byte) string {
	text := make([]byte, 0, 2*len(b))
	put := func(value byte) { text = append(text, hexDigits[value]) }
	for i := range len(b) {
		put(b[i] >> 4)
		put(b[i] & 15)
	}
	return string(text)
}

// Unhex returns the bytes whose Hex is s, or nil and false if there are none.
func Unhex(s string) ([]byte, bool) {
	if len(s)%2 != 0 {
		return nil, false
	}
	b := make([]byte, len(s)/2)
	for i := range len(b) {
		high, isHigh := digitValue(s[2*i])
		low, isLow := digitValue(s[2*i+1])
		if !isHigh || !isLow {
			return nil, false
		}
		b[i] = high<<4 | low
	}
	return b, true
}

// digitValue knows no upper-case letters: Hex never writes them, and Unhex takes only what Hex writes.
func digitValue(digit byte) (byte, bool) {
	switch {
	case '0' <= digit && digit <= '9':
		return digit - '0', true
	case 'a' <= digit && digit <= 'f':
		return digit - 'a' + 10, true
	}
	return 0, false
}

// Num returns the number whose big-endian bytes are b, or 0 and false if it is 2^64 or more.
func Num(b []byte) (uint64, bool) {
	n := uint64(0)
	for i := range len(b) {
		if n>>56 != 0 { // one more byte would push the topmost one out
			return 0, false
		}
		n = n<<8 | uint64(b[i])
	}
	return n, true
}

// Bytes returns the many big-endian bytes whose Num is n, or nil and false if many is out of range or too small for n.
func Bytes(n uint64, many int) ([]byte, bool) {
	if many < 0 || many > mostMany {
		return nil, false
	}
	b := make([]byte, many)
	for i := range many {
		b[many-1-i] = byte(n)
		n >>= 8
	}
	if n != 0 { // something of the number found no place
		return nil, false
	}
	return b, true
}

// Least returns the fewest bytes whose Num is n, but at least one.
func Least(n uint64) []byte {
	many := 1
	for rest := n >> 8; rest != 0; rest >>= 8 {
		many++
	}
	b, _ := Bytes(n, many) // many is 1 to 8, and enough
	return b
}

// Cmp orders byte strings: by the first byte in which they differ, and a proper prefix before what it begins.
func Cmp(a, b []byte) int {
	for i := range min(len(a), len(b)) {
		if a[i] != b[i] {
			return order(int(a[i]), int(b[i]))
		}
	}
	return order(len(a), len(b))
}

func order(a, b int) int {
	switch {
	case a < b:
		return -1
	case a > b:
		return 1
	}
	return 0
}
