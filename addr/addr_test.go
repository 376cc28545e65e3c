package addr_test

import (
	"bytes"
	"fmt"
	"math"
	"math/rand"
	"net/netip"
	"slices"
	"strings"
	"testing"

	"lanyard/addr"
	"lanyard/api"
)

const (
	mostV4 = 32
	mostV6 = 128
)

func mostOf(v6 bool) int {
	if v6 {
		return mostV6
	}
	return mostV4
}

// bitsOf returns the bits of an address as 128 digits.
func bitsOf(p api.Prefix) string {
	var digits strings.Builder
	for _, b := range p.Addr {
		fmt.Fprintf(&digits, "%08b", b)
	}
	return digits.String()
}

// wantRight follows the definition of a valid prefix, bit by bit.
func wantRight(p api.Prefix) bool {
	return p.Len >= 0 && p.Len <= mostOf(p.V6) && !strings.Contains(bitsOf(p)[p.Len:], "1")
}

// wantCut follows the promise, bit by bit.
func wantCut(p api.Prefix) api.Prefix {
	cut := api.Prefix{V6: p.V6, Len: p.Len}
	if p.Len < 0 {
		cut.Len = 0
	}
	if p.Len > mostOf(p.V6) {
		cut.Len = mostOf(p.V6)
	}
	for i, bit := range bitsOf(p) {
		if i < cut.Len && bit == '1' {
			cut.Addr[i/8] |= 128 >> (i % 8)
		}
	}
	return cut
}

// wantText tries every run of groups that are 0: the longest one is taken, and the first one among several.
func wantText(p api.Prefix) string {
	a := p.Addr
	if !p.V6 {
		return fmt.Sprintf("%d.%d.%d.%d/%d", a[0], a[1], a[2], a[3], p.Len)
	}
	var groups []string
	for i := 0; i < 16; i += 2 {
		groups = append(groups, fmt.Sprintf("%x", int(a[i])*256+int(a[i+1])))
	}
	address := strings.Join(groups, ":")
search:
	for many := 8; many >= 2; many-- {
		for start := 0; start+many <= 8; start++ {
			if strings.Join(groups[start:start+many], "") == strings.Repeat("0", many) {
				address = strings.Join(groups[:start], ":") + "::" + strings.Join(groups[start+many:], ":")
				break search
			}
		}
	}
	return fmt.Sprintf("%s/%d", address, p.Len)
}

func v4(length int, address ...byte) api.Prefix {
	p := api.Prefix{Len: length}
	copy(p.Addr[:], address)
	return p
}

// v6 takes the groups of an address, the first ones of it.
func v6(length int, groups ...uint16) api.Prefix {
	p := api.Prefix{V6: true, Len: length}
	for i, group := range groups {
		p.Addr[2*i], p.Addr[2*i+1] = byte(group>>8), byte(group)
	}
	return p
}

func withBit(p api.Prefix, bit int) api.Prefix {
	p.Addr[bit/8] |= 128 >> (bit % 8)
	return p
}

func filled(v6 bool, length int, value byte) api.Prefix {
	p := api.Prefix{V6: v6, Len: length}
	for i := range p.Addr {
		p.Addr[i] = value
	}
	return p
}

// lengths are all that are valid, and others below and above them.
func lengths() []int {
	l := []int{math.MinInt, math.MinInt + 1, math.MinInt32, math.MinInt8, math.MaxInt8, 255, 256, 257, math.MaxInt32, math.MaxInt - 1, math.MaxInt}
	for length := -20; length <= 150; length++ {
		l = append(l, length)
	}
	return l
}

// randomPrefixes are valid ones, the same in every run. Many have bytes that are 0 or 255.
func randomPrefixes(seed int64, many int) []api.Prefix {
	r := rand.New(rand.NewSource(seed))
	l := make([]api.Prefix, many)
	for i := range l {
		p := api.Prefix{V6: r.Intn(3) > 0}
		p.Len = r.Intn(mostOf(p.V6) + 1)
		if r.Intn(3) == 0 {
			p.Len = mostOf(p.V6)
		}
		for k := range p.Addr {
			switch r.Intn(6) {
			case 0:
				p.Addr[k] = 255
			case 1, 2:
				p.Addr[k] = byte(r.Intn(256))
			}
		}
		l[i] = wantCut(p)
	}
	return l
}

// wrongPrefixes are prefixes that are not valid, each for one reason.
func wrongPrefixes() []api.Prefix {
	l := []api.Prefix{
		v4(-1), v4(33), v4(64), v4(128), v4(129), v4(math.MinInt), v4(math.MaxInt), v4(-1, 10), v4(33, 10, 0, 0, 1),
		v6(-1), v6(129), v6(math.MinInt), v6(math.MaxInt), v6(256), v6(-8, 0x2001), v6(129, 1, 2, 3, 4, 5, 6, 7, 8),
		v4(8, 10, 0, 0, 1), v4(0, 1), v4(0, 128), v4(31, 10, 0, 0, 1), v4(7, 11), v4(24, 10, 0, 0, 128),
		v4(32, 10, 0, 0, 1, 1), v4(32, 10, 0, 0, 1, 128), v4(32, 0, 0, 0, 0, 0, 0, 0, 0, 0, 0, 0, 0, 0, 0, 0, 1), v4(0, 0, 0, 0, 0, 1),
		v6(0, 0x8000), v6(0, 0, 0, 0, 0, 0, 0, 0, 1), v6(127, 0, 0, 0, 0, 0, 0, 0, 1), v6(31, 0x2001, 0xdb9), v6(32, 0x2001, 0xdb8, 0x8000), v6(64, 1, 0, 0, 2, 0x8000),
	}
	return l
}

// pool has prefixes that are next to, within and before each other, and some that are not valid.
func pool() []api.Prefix {
	l := slices.Concat(wrongPrefixes(), randomPrefixes(1, 40))
	for _, length := range []int{0, 1, 7, 8, 9, 15, 16, 17, 31, 32, 33, 63, 64, 65, 127, 128} {
		for _, isV6 := range []bool{false, true} {
			for _, value := range []byte{0, 85, 170, 255} {
				l = append(l, wantCut(filled(isV6, length, value)))
			}
		}
	}
	l = append(l,
		v4(8, 10), v4(9, 10), v4(9, 10, 128), v4(16, 10, 1), v4(24, 10, 1, 2), v4(32, 10, 1, 2, 3), v4(32, 10), v4(8, 11), v4(7, 10), v4(6, 8),
		v6(8, 0xa00), v6(9, 0xa00), v6(16, 0xa01), v6(32, 0xa01, 0x203), v6(32, 0x2001, 0xdb8), v6(48, 0x2001, 0xdb8, 1), v6(128, 0x2001, 0xdb8), v6(128, 0x2001, 0xdb8, 0, 0, 0, 0, 0, 1))
	return l
}

// P10.1

func TestRight(t *testing.T) {
	for _, p := range []api.Prefix{
		{}, {V6: true}, v4(8, 10), v4(32, 10, 0, 0, 1), v4(32, 255, 255, 255, 255), v4(1, 128), v4(31, 255, 255, 255, 254), v4(32),
		v6(32, 0x2001, 0xdb8), v6(128, 1, 2, 3, 4, 5, 6, 7, 8), v6(128), v6(1, 0x8000), v6(127, 0, 0, 0, 0, 0, 0, 0, 2), filled(true, 128, 255),
	} {
		if !addr.Right(p) {
			t.Errorf("%v is not valid", p)
		}
	}
	for _, p := range wrongPrefixes() {
		if addr.Right(p) {
			t.Errorf("%v is valid", p)
		}
	}
}

// Every bit that is 1 makes the prefixes up to its index invalid; in IPv4, also a bit that is no part of an address.
func TestRightOfEveryBit(t *testing.T) {
	for _, isV6 := range []bool{false, true} {
		for _, length := range lengths() {
			isLength := length >= 0 && length <= mostOf(isV6)
			p := api.Prefix{V6: isV6, Len: length}
			if got := addr.Right(p); got != isLength {
				t.Errorf("Right of %v is %t", p, got)
			}
			for bit := range 128 {
				if got, want := addr.Right(withBit(p, bit)), isLength && bit < length; got != want {
					t.Errorf("Right of %v is %t", withBit(p, bit), got)
				}
			}
		}
	}
}

func TestCut(t *testing.T) {
	for _, c := range []struct{ p, want api.Prefix }{
		{v4(8, 10, 1, 2, 3), v4(8, 10)},
		{v4(9, 10, 129, 2, 3), v4(9, 10, 128)},
		{v4(32, 10, 1, 2, 3, 4, 5), v4(32, 10, 1, 2, 3)},
		{v4(33, 10, 1, 2, 3, 255), v4(32, 10, 1, 2, 3)},
		{v4(128, 10, 1, 2, 3, 255), v4(32, 10, 1, 2, 3)},
		{v4(-1, 10, 1, 2, 3, 255), v4(0)},
		{v4(math.MinInt, 10, 1, 2, 3, 255), v4(0)},
		{v4(math.MaxInt, 10, 1, 2, 3, 255), v4(32, 10, 1, 2, 3)},
		{v6(33, 0x2001, 0xdb8, 0xffff), v6(33, 0x2001, 0xdb8, 0x8000)},
		{v6(129, 1, 2, 3, 4, 5, 6, 7, 9), v6(128, 1, 2, 3, 4, 5, 6, 7, 9)},
		{v6(127, 1, 2, 3, 4, 5, 6, 7, 9), v6(127, 1, 2, 3, 4, 5, 6, 7, 8)},
		{v6(math.MaxInt, 1, 2, 3, 4, 5, 6, 7, 9), v6(128, 1, 2, 3, 4, 5, 6, 7, 9)},
		{v6(-1, 1, 2), v6(0)},
		{v6(math.MinInt, 1, 2), v6(0)},
		{api.Prefix{}, api.Prefix{}},
	} {
		if got := addr.Cut(c.p); got != c.want {
			t.Errorf("Cut of %v is %v, want %v", c.p, got, c.want)
		}
	}
}

func TestCutOfEveryLength(t *testing.T) {
	addresses := randomPrefixes(2, 50)
	addresses = append(addresses, filled(false, 0, 255), filled(true, 0, 255), filled(false, 0, 165), filled(true, 0, 165))
	for _, p := range addresses {
		for _, isV6 := range []bool{false, true} {
			for _, length := range lengths() {
				p.V6, p.Len = isV6, length
				got := addr.Cut(p)
				if want := wantCut(p); got != want {
					t.Errorf("Cut of %v is %v, want %v", p, got, want)
				}
				if !addr.Right(got) || addr.Cut(got) != got {
					t.Errorf("Cut of %v is not valid, or has another Cut", p)
				}
			}
		}
	}
}

func TestRightAgainstDefinition(t *testing.T) {
	for _, p := range pool() {
		if got, want := addr.Right(p), wantRight(p); got != want {
			t.Errorf("Right of %v is %t", p, got)
		}
		if got := addr.Cut(p) == p; got != wantRight(p) {
			t.Errorf("%v is its own Cut: %t", p, got)
		}
	}
}

// P10.2

// isText holds Text and Read of a valid prefix against its text.
func isText(t *testing.T, p api.Prefix, want string) {
	t.Helper()
	if got, e := addr.Text(p); got != want || e != api.OK {
		t.Errorf("Text of %v is %q and %d, want %q and 0", p, got, e, want)
	}
	if got, e := addr.Read(want); got != p || e != api.OK {
		t.Errorf("Read of %q is %v and %d, want %v and 0", want, got, e, p)
	}
}

// isNoText holds that Read refuses s.
func isNoText(t *testing.T, s string) {
	t.Helper()
	if p, e := addr.Read(s); e != api.ErrForm || p != (api.Prefix{}) {
		t.Errorf("Read of %.60q is %v and %d, want zeros and %d", s, p, e, api.ErrForm)
	}
}

func TestTexts(t *testing.T) {
	for _, c := range []struct {
		p    api.Prefix
		text string
	}{
		{v4(8, 10), "10.0.0.0/8"},
		{v4(0), "0.0.0.0/0"},
		{v4(32), "0.0.0.0/32"},
		{v4(32, 255, 255, 255, 255), "255.255.255.255/32"},
		{v4(32, 1, 20, 100, 9), "1.20.100.9/32"},
		{v4(31, 192, 0, 2, 254), "192.0.2.254/31"},
		{v4(10, 10, 64), "10.64.0.0/10"},
		{v4(9, 0, 128), "0.128.0.0/9"},
		{v6(32, 0x2001, 0xdb8), "2001:db8::/32"},
		{v6(0), "::/0"},
		{v6(128), "::/128"},
		{v6(64), "::/64"},
		{v6(64, 1, 0, 0, 2), "1:0:0:2::/64"},
		{v6(128, 1, 2, 3, 4, 5, 6, 7, 8), "1:2:3:4:5:6:7:8/128"},
		{v6(128, 0, 0, 0, 0, 0, 0, 0, 1), "::1/128"},
		{v6(16, 1), "1::/16"},
		{v6(128, 1, 0, 0, 0, 0, 0, 0, 1), "1::1/128"},
		{v6(128, 1, 0, 3, 4, 5, 6, 7, 8), "1:0:3:4:5:6:7:8/128"},                                           // a single group is written
		{v6(128, 0, 2, 3, 4, 5, 6, 7, 8), "0:2:3:4:5:6:7:8/128"},                                           // also the first
		{v6(112, 1, 2, 3, 4, 5, 6, 7), "1:2:3:4:5:6:7:0/112"},                                              // and the last
		{v6(128, 0, 2, 0, 4, 0, 6, 0, 8), "0:2:0:4:0:6:0:8/128"},                                           // and several
		{v6(128, 0, 0, 3, 4, 5, 6, 7, 8), "::3:4:5:6:7:8/128"},                                             // two are not
		{v6(128, 1, 2, 3, 0, 0, 6, 7, 8), "1:2:3::6:7:8/128"},                                              // in the middle
		{v6(96, 1, 2, 3, 4, 5, 6), "1:2:3:4:5:6::/96"},                                                     // and at the end
		{v6(128, 1, 0, 0, 4, 5, 0, 0, 8), "1::4:5:0:0:8/128"},                                              // the first one of two
		{v6(128, 0, 0, 3, 0, 0, 6, 0, 0), "::3:0:0:6:0:0/128"},                                             // the first one of three
		{v6(128, 1, 0, 0, 4, 0, 0, 0, 8), "1:0:0:4::8/128"},                                                // the longest one, which is the second
		{v6(128, 0, 0, 0, 4, 0, 0, 0, 0), "0:0:0:4::/128"},                                                 // also at the end
		{v6(128, 0, 0, 0, 4, 5, 0, 0, 0), "::4:5:0:0:0/128"},                                               // as long as the first
		{v6(128, 0, 2, 0, 0, 5, 0, 7, 0), "0:2::5:0:7:0/128"},                                              // beside single ones
		{v6(128, 0, 0, 0, 0, 0, 0xffff, 0x102, 0x304), "::ffff:102:304/128"},                               // no part is written as IPv4
		{v6(96, 0, 0, 0, 0, 0, 0xffff), "::ffff:0:0/96"},                                                   // here neither
		{v6(128, 0, 0, 0, 0, 0, 0, 0x102, 0x304), "::102:304/128"},                                         // nor here
		{v6(128, 0x10, 0x100, 0x1000, 0xa, 0xb0, 0xc00, 0xd000, 0xef), "10:100:1000:a:b0:c00:d000:ef/128"}, // zeros within a group stay
		{v6(128, 0x1, 0x23, 0x456, 0x789a, 0xbcde, 0xf0f, 0xff, 0xffff), "1:23:456:789a:bcde:f0f:ff:ffff/128"},
		{filled(true, 128, 255), "ffff:ffff:ffff:ffff:ffff:ffff:ffff:ffff/128"},
		{v6(1, 0x8000), "8000::/1"},
		{v6(9, 0x80), "80::/9"},
	} {
		isText(t, c.p, c.text)
		if want := wantText(c.p); want != c.text {
			t.Errorf("the test's own text of %v is %q", c.p, want)
		}
	}
}

func TestTextOfWrongPrefixes(t *testing.T) {
	for _, p := range wrongPrefixes() {
		if s, e := addr.Text(p); e != api.ErrArg || s != "" {
			t.Errorf("Text of %v is %q and %d, want nothing and %d", p, s, e, api.ErrArg)
		}
	}
}

// All 256 ways in which groups are 0 or not, for groups of one to four digits.
func TestTextsOfEveryPattern(t *testing.T) {
	for pattern := range 256 {
		for _, value := range []uint16{1, 0x10, 0xf00, 0x1000, 0xffff} {
			groups := make([]uint16, 8)
			for i := range groups {
				groups[i] = value * uint16(pattern>>i&1)
			}
			p := v6(128, groups...)
			isText(t, p, wantText(p))
		}
	}
}

func TestTextsOfEveryByte(t *testing.T) {
	for value := range 256 {
		for i := range 16 {
			p, q := v4(mostV4), v6(mostV6)
			p.Addr[i%4], q.Addr[i] = byte(value), byte(value)
			isText(t, p, wantText(p))
			isText(t, q, wantText(q))
		}
	}
}

func TestTextsOfEveryGroup(t *testing.T) {
	for value := range 65536 {
		p := v6(mostV6, uint16(value), 1, 1, uint16(value), 1, 1, 1, uint16(value))
		isText(t, p, wantText(p))
	}
}

func TestTextsOfEveryLength(t *testing.T) {
	for _, isV6 := range []bool{false, true} {
		for length := 0; length <= mostOf(isV6); length++ {
			for _, value := range []byte{0, 1, 85, 170, 255} {
				p := wantCut(filled(isV6, length, value))
				isText(t, p, wantText(p))
			}
		}
	}
}

func TestTextsOfRandomPrefixes(t *testing.T) {
	for _, p := range randomPrefixes(3, 5000) {
		isText(t, p, wantText(p))
	}
}

// The Go library writes the same texts, but for addresses that have an IPv4 address in them.
func TestTextsAgainstLibrary(t *testing.T) {
	for _, p := range randomPrefixes(4, 5000) {
		address := netip.AddrFrom16(p.Addr)
		if !p.V6 {
			address = netip.AddrFrom4([4]byte(p.Addr[:4]))
		}
		if p.V6 && address.Is4In6() {
			continue
		}
		isText(t, p, netip.PrefixFrom(address, p.Len).String())
	}
}

func TestReadOfWrongTexts(t *testing.T) {
	for _, s := range []string{
		"", "/", "//", ":", "::", ":::", ".", "...", "0", "/0", "0/0", "8", "a", "::/", ":/0", ":::/0", "::::/0", "/::", "0::", "x", "\x00", "é", "\xff",
		// IPv4
		"10.0.0.1/8", "0.0.0.1/0", "128.0.0.0/0", "10.0.0.0/6", "10.0.0.1/31", // bits behind the length
		"10.0.0.0", "10.0.0.0/", "10.0.0.0/33", "10.0.0.0/64", "10.0.0.0/128", "10.0.0.0/-1", "0.0.0.0/-0", "10.0.0.0/+8", "10.0.0.0/08", "10.0.0.0/008", "0.0.0.0/00",
		"10.0.0.0/8/8", "10.0.0.0//8", "10.0.0.0/8/", "/10.0.0.0/8", "10.0.0.0/8.", "10.0.0.0/8 ", " 10.0.0.0/8", "10.0.0.0 /8", "10.0.0.0/ 8", "10.0.0.0/8\n", "10.0.0.0/8\x00", "10.0.0.0/a", "10.0.0.0/0x8", "10.0.0.0/1_0",
		"10.0.0.0/4294967304", "10.0.0.0/18446744073709551624", "10.0.0.0/99999999999999999999999999", "0.0.0.0/4294967296", "0.0.0.0/18446744073709551616",
		"10/8", "10.0/8", "10.0.0/8", "10.0.0.0.0/8", ".10.0.0.0/8", "10.0.0.0./8", "10..0.0/8", "10...0/8", "...0/8", ".../0", "10.0.0./8", ".0.0.0/0",
		"010.0.0.0/8", "10.00.0.0/8", "10.0.0.00/8", "0x0a.0.0.0/8", "0a.0.0.0/8", "a.0.0.0/8", "10.0.0.0e/8", "1e.0.0.0/8", "256.0.0.0/8", "10.0.0.256/32", "300.0.0.0/8", "1000.0.0.0/8", "255.255.255.256/32", "4294967306.0.0.0/8", "18446744073709551626.0.0.0/8", "-1.0.0.0/8", "+10.0.0.0/8", "1_0.0.0.0/8", "10,0,0,0/8", "167772160/8", "１0.0.0.0/8",
		// IPv6
		"::1/0", "::1/127", "2001:db8::1/32", "2001:db9::/31", "8000::/0", "1:2:3:4:5:6:7:8/64", // bits behind the length
		"2001:db8::", "2001:db8::/", "::/129", "::/256", "::/-1", "::/-0", "::/+0", "::/00", "::/064", "::/ 0", "::/0 ", " ::/0", ":: /0", "::/0/0", "::/0\n", "::/a", "::/0x0", "2001:db8::/0x20", "::/18446744073709551616", "::/4294967296",
		"2001:DB8::/32", "2001:dB8::/32", "FFFF::/16", "::A/128", // upper-case letters
		"2001:0db8::/32", "02001:db8::/32", "00::/0", "0000::/0", "::01/128", "::0001/128", "::00001/128", "1:2:3:4:5:6:7:08/128", // leading zeros
		"0::/0", "::0/0", "0::0/0", "0:0:0:0:0:0:0:0/0", "0:0:0:0:0:0:0:1/128", "::0:1/128", "1::0/16", "1:0::/16", "::0:0/0", "0:0::/0", "1:0:0:0:0:0:0:0/16", "1::0:1/128", "1:0::1/128", "1:2:3:4:5:6:0:0/96", "1:2:3:4:5:6:7::/112", "::2:3:4:5:6:7:8/128", "1::3:4:5:6:7:8/128", "1:2:3:4::6:7:8/128", // another run, or a single group replaced
		"1::2:0:0:0:0/64", "1:0:0:2:0:0:0:0/64", "1::2:0:0:0:0:0/64", "::1:0:0:1:0:0:0/128", "1:0:0:4:5::8/128", "0:0:3:0:0:6::/128", "0:0:3::6:0:0/128", "0:0:0:4:5::/128", "1::4:0:0:0:8/128", // not the longest, or not the first
		"1:2:3:4:5:6:7:8::/128", "::1:2:3:4:5:6:7:8/128", "1:2:3:4::5:6:7:8/128", "1:2:3:4:5::1:2:3:4:5/128", "1::2::3/128", "::1::/128", "1:::2/128", "1:2:::/32", ":::1/128", "1::2:/128", ":1::2/128", ":2001:db8::/32", "2001:db8:::/32", ":1:2:3:4:5:6:7/128", "1:2:3:4:5:6:7:/128", ":1:2:3:4:5:6:7:8/128", "1:2:3:4:5:6:7:8:/128", "1:2:3:4:5:6:7:8:9/128", "1:2:3:4:5:6:7/128", "1:2/128", "1:/16", ":1/128", "1/16", "2001:db8/32", "2001:db8:/32", "2001/16", "1:2:3:4:5:6:7:8",
		"10000::/16", "12345::/16", "::10000/128", "fffff::/128", "1ffff::/16", "::100000001/128", "::10000000000000001/128", "g::/16", "-1::/16", "+1::/16", "0x1::/16", "1_0::/16", "1 ::/16", "::é/128",
		"::ffff:1.2.3.4/128", "::1.2.3.4/128", "::ffff:1.2.3.0/120", "1.2.3.4::/32", "1.2.3.4:5::/32", "10.0.0.0:0/8", "10:0.0.0/8", "10:0:0:0/8", "10::0.0/8", "2001.db8::/32", "2001:db8./32", // both families
		"fe80::%1/64", "fe80::1%eth0/128", "[::]/0", "[::1]/128", "::/0%1", "2001-db8::/32",
	} {
		isNoText(t, s)
	}
}

// isWrittenText tells by the Go library whether s is the text of a valid prefix.
func isWrittenText(s string) bool {
	q, e := netip.ParsePrefix(s)
	if e != nil {
		return false
	}
	p := api.Prefix{V6: !q.Addr().Is4(), Len: q.Bits()}
	if p.V6 {
		p.Addr = q.Addr().As16()
	} else {
		address := q.Addr().As4()
		copy(p.Addr[:], address[:])
	}
	return wantRight(p) && wantText(p) == s
}

// isReadAsWritten holds that Read takes s if it is a text, and refuses it if not.
func isReadAsWritten(t *testing.T, s string) {
	t.Helper()
	if !isWrittenText(s) {
		isNoText(t, s)
		return
	}
	p, e := addr.Read(s)
	if e != api.OK || !wantRight(p) || wantText(p) != s {
		t.Errorf("Read of %q is %v and %d", s, p, e)
	}
}

func TestReadOfChangedTexts(t *testing.T) {
	const characters = "0129afAFgx.:/+- \x00\xff"
	for _, text := range []string{
		"10.0.0.0/8", "0.0.0.0/0", "192.168.255.128/25", "1.2.3.4/32", "::/0", "::1/128", "2001:db8::/32", "1:0:0:2::/64", "1:2:3:4:5:6:7:8/128",
		"1::4:5:0:0:8/128", "0:2:0:4:0:6:0:8/128", "::ffff:102:304/128", "ffff:ffff:ffff:ffff:ffff:ffff:ffff:ffff/128", "1:2:3:4:5:6::/96", "::3:4:5:6:7:8/128",
	} {
		isReadAsWritten(t, text)
		for i := range len(text) + 1 {
			isReadAsWritten(t, text[:i])
			isReadAsWritten(t, text[i:])
			isReadAsWritten(t, text[:i]+text+text[i:])
			for end := i; end <= len(text); end++ {
				isReadAsWritten(t, text[:i]+text[end:])
			}
			for _, c := range []byte(characters) {
				isReadAsWritten(t, text[:i]+string([]byte{c})+text[i:])
				if i < len(text) {
					isReadAsWritten(t, text[:i]+string([]byte{c})+text[i+1:])
				}
			}
		}
	}
}

// All strings of up to six characters from some, and of up to ten from fewer.
func TestReadOfShortTexts(t *testing.T) {
	for _, c := range []struct {
		characters string
		most       int
	}{{"01a.:/", 6}, {"0:/", 10}, {"1.0/", 8}} {
		l := []string{""}
		for range c.most {
			var longer []string
			for _, s := range l {
				isReadAsWritten(t, s)
				for i := range c.characters {
					longer = append(longer, s+c.characters[i:i+1])
				}
			}
			l = longer
		}
		for _, s := range l {
			isReadAsWritten(t, s)
		}
	}
}

// All IPv6 addresses of up to nine groups of one digit, with runs replaced in every way.
func TestReadOfEveryRun(t *testing.T) {
	for many := range 10 {
		for pattern := range 1 << many {
			groups := make([]string, many)
			for i := range groups {
				groups[i] = string("01"[pattern>>i&1])
			}
			isReadAsWritten(t, strings.Join(groups, ":")+"/128")
			for start := range many + 1 {
				for end := start; end <= many; end++ {
					isReadAsWritten(t, strings.Join(groups[:start], ":")+"::"+strings.Join(groups[end:], ":")+"/128")
				}
			}
		}
	}
}

func TestReadOfRandomTexts(t *testing.T) {
	r := rand.New(rand.NewSource(5))
	const characters = "00112889aff..::://"
	for range 200000 {
		b := make([]byte, r.Intn(20))
		for i := range b {
			b[i] = characters[r.Intn(len(characters))]
		}
		isReadAsWritten(t, string(b))
	}
}

func TestReadOfLongTexts(t *testing.T) {
	const many = 1000000
	for _, part := range []string{"0", "1", "9", "f", ":", "::", ".", "/", "1:", "0:", ":1", "1.", "0.", ".1", "1::", "1/", "/1", "\x00", "\xff"} {
		long := strings.Repeat(part, many)
		for _, s := range []string{long, long + "/8", "::" + long + "/8", "10.0.0.0/" + long, "::/" + long, long + "::/0", long + ".0.0.0/8", "2001:" + long + "::/32"} {
			isNoText(t, s)
		}
	}
}

// P10.3

func TestCovers(t *testing.T) {
	for _, c := range []struct {
		p, q api.Prefix
		want bool
	}{
		{v4(8, 10), v4(16, 10, 1), true},
		{v4(16, 10, 1), v4(8, 10), false},
		{v4(8, 10), v4(8, 10), true},
		{v4(8, 10), v4(9, 10), true},
		{v4(9, 10), v4(8, 10), false},
		{v4(9, 10), v4(9, 10, 128), false},
		{v4(8, 10), v4(9, 10, 128), true},
		{v4(8, 10), v4(32, 10, 255, 255, 255), true},
		{v4(8, 10), v4(32, 11), false},
		{v4(7, 10), v4(32, 11), true},
		{v4(0), v4(0), true},
		{v4(0), v4(32, 255, 255, 255, 255), true},
		{v4(31), v4(32, 0, 0, 0, 1), true},
		{v4(32), v4(32, 0, 0, 0, 1), false},
		{v4(32), v4(32), true},
		{v4(0), v6(0), false},
		{v6(0), v4(0), false},
		{v4(8, 10), v6(16, 0xa00), false},
		{v6(8, 0xa00), v4(16, 10), false},
		{v6(0), v6(128, 1, 2, 3, 4, 5, 6, 7, 8), true},
		{v6(32, 0x2001, 0xdb8), v6(48, 0x2001, 0xdb8, 0xffff), true},
		{v6(32, 0x2001, 0xdb8), v6(48, 0x2001, 0xdb9, 0xffff), false},
		{v6(31, 0x2001, 0xdb8), v6(48, 0x2001, 0xdb9, 0xffff), true},
		{v6(127), v6(128, 0, 0, 0, 0, 0, 0, 0, 1), true},
		{v6(126), v6(128, 0, 0, 0, 0, 0, 0, 0, 4), false},
		{v6(128), v6(128, 0, 0, 0, 0, 0, 0, 0, 1), false},
		{v6(64), v6(33), false},
		// One of them is not valid.
		{v4(8, 10, 1), v4(16, 10, 1), false},
		{v4(8, 10), v4(16, 10, 1, 1), false},
		{v4(8, 10, 1), v4(8, 10, 1), false},
		{v4(-1), v4(8, 10), false},
		{v4(0), v4(33, 10), false},
		{v4(-1), v4(-1), false},
		{v4(33), v4(33), false},
		{v4(8, 10), v4(32, 10, 0, 0, 0, 1), false},
		{v6(0), v6(129), false},
		{v6(0), v6(0, 1), false},
		{v6(-1), v6(0), false},
	} {
		if got := addr.Covers(c.p, c.q); got != c.want {
			t.Errorf("Covers of %v and %v is %t", c.p, c.q, got)
		}
	}
}

func wantCovers(p, q api.Prefix) bool {
	return wantRight(p) && wantRight(q) && p.V6 == q.V6 && p.Len <= q.Len && strings.HasPrefix(bitsOf(q), bitsOf(p)[:p.Len])
}

func TestCoversOfAllPairs(t *testing.T) {
	l := pool()
	for _, p := range l {
		for _, q := range l {
			if got, want := addr.Covers(p, q), wantCovers(p, q); got != want {
				t.Errorf("Covers of %v and %v is %t", p, q, got)
			}
		}
	}
}

// A prefix covers those that begin with its bits, and one bit that differs ends that.
func TestCoversOfEveryBit(t *testing.T) {
	for _, address := range randomPrefixes(6, 6) {
		whole := address
		whole.Len = mostOf(whole.V6)
		for length := 0; length <= whole.Len; length++ {
			p := whole
			p.Len = length
			p = wantCut(p)
			for bit := range whole.Len {
				q := whole
				q.Addr[bit/8] ^= 128 >> (bit % 8)
				if got := addr.Covers(p, q); got != (bit >= length) {
					t.Errorf("Covers of %v and %v is %t", p, q, got)
				}
			}
		}
	}
}

func TestCmp(t *testing.T) {
	// In increasing order. What is not valid has its place as well.
	l := []api.Prefix{
		v4(math.MinInt), v4(-1), v4(0), v4(1), v4(32), v4(33), v4(math.MaxInt),
		v4(0, 0, 0, 0, 0, 0, 0, 0, 0, 0, 0, 0, 0, 0, 0, 0, 1), v4(32, 0, 0, 0, 0, 1), v4(32, 0, 0, 0, 1), v4(8, 9, 255, 255, 255), v4(7, 10), v4(8, 10), v4(9, 10), v4(32, 10), v4(0, 10, 0, 0, 1), v4(32, 10, 0, 0, 1), v4(16, 10, 1), v4(9, 10, 128), v4(8, 11), v4(8, 127), v4(1, 128), v4(8, 128), v4(8, 255), v4(-5, 255, 255, 255, 255), filled(false, 0, 255),
		v6(math.MinInt), v6(-1), v6(0), v6(128), v6(129), v6(math.MaxInt), v6(128, 0, 0, 0, 0, 0, 0, 0, 1), v6(0, 0, 0, 0, 0, 0, 0, 0, 256), v6(8, 0xa00), v6(31, 0x2001, 0xdb8), v6(32, 0x2001, 0xdb8), v6(48, 0x2001, 0xdb8, 1), v6(32, 0x2001, 0xdb9), v6(1, 0x8000), filled(true, -1, 255), filled(true, 128, 255),
	}
	for i, p := range l {
		for k, q := range l {
			want := 0
			switch {
			case i < k:
				want = -1
			case i > k:
				want = 1
			}
			if got := addr.Cmp(p, q); got != want {
				t.Errorf("Cmp of %v and %v is %d, want %d", p, q, got, want)
			}
		}
	}
}

func wantCmp(p, q api.Prefix) int {
	isLess := func(p, q api.Prefix) bool {
		if p.V6 != q.V6 {
			return q.V6
		}
		order := bytes.Compare(p.Addr[:], q.Addr[:])
		return order < 0 || order == 0 && p.Len < q.Len
	}
	switch {
	case isLess(p, q):
		return -1
	case isLess(q, p):
		return 1
	}
	return 0
}

func TestCmpOfAllPairs(t *testing.T) {
	l := pool()
	for _, p := range l {
		for _, q := range l {
			if got, want := addr.Cmp(p, q), wantCmp(p, q); got != want {
				t.Errorf("Cmp of %v and %v is %d, want %d", p, q, got, want)
			}
			if is := addr.Cmp(p, q) == 0; is != (p == q) {
				t.Errorf("Cmp of %v and %v is 0: %t", p, q, is)
			}
		}
	}
}

func TestCmpOfEveryByte(t *testing.T) {
	for i := range 16 {
		for _, isV6 := range []bool{false, true} {
			p, q := filled(isV6, 9, 100), filled(isV6, 3, 100)
			q.Addr[i]++
			if addr.Cmp(p, q) != -1 || addr.Cmp(q, p) != 1 {
				t.Errorf("Cmp of %v and %v is %d, and exchanged %d", p, q, addr.Cmp(p, q), addr.Cmp(q, p))
			}
		}
	}
}

// P10.4

func TestTextAndReadAreInverse(t *testing.T) {
	texts := map[string]api.Prefix{}
	for _, p := range slices.Concat(pool(), randomPrefixes(7, 3000)) {
		s, e := addr.Text(p)
		if e != api.OK {
			if wantRight(p) {
				t.Errorf("%v has no text", p)
			}
			continue
		}
		if q, e := addr.Read(s); q != p || e != api.OK {
			t.Errorf("Read of the text of %v is %v and %d", p, q, e)
		}
		if other, is := texts[s]; is && other != p {
			t.Errorf("%v and %v have the same text", p, other)
		}
		texts[s] = p
	}
}

func TestLawsOfCovers(t *testing.T) {
	l := slices.DeleteFunc(pool(), func(p api.Prefix) bool { return !wantRight(p) })
	for _, p := range l {
		if !addr.Covers(p, p) {
			t.Errorf("%v does not cover itself", p)
		}
		for _, q := range l {
			if !addr.Covers(p, q) {
				continue
			}
			if addr.Covers(q, p) && p != q {
				t.Errorf("%v and %v cover each other", p, q)
			}
			if addr.Cmp(p, q) > 0 {
				t.Errorf("%v covers %v, but comes after it", p, q)
			}
			for _, r := range l {
				if addr.Covers(q, r) && !addr.Covers(p, r) {
					t.Errorf("%v covers %v, which covers %v, but not that one", p, q, r)
				}
			}
		}
	}
}

func TestLawsOfCmp(t *testing.T) {
	l := pool()
	for _, p := range l {
		for _, q := range l {
			if addr.Cmp(p, q) != -addr.Cmp(q, p) {
				t.Errorf("Cmp of %v and %v is not that of the two exchanged", p, q)
			}
			for _, r := range l {
				if addr.Cmp(p, q) <= 0 && addr.Cmp(q, r) <= 0 && addr.Cmp(p, r) > 0 {
					t.Errorf("%v, %v and %v are in order, but not the first and the last", p, q, r)
				}
			}
		}
	}
}

// R3 and R4

func TestCallsDependOnArgumentsAlone(t *testing.T) {
	l := pool()
	type answers struct {
		right, covers bool
		text          string
		textError     api.Errno
		read, cut     api.Prefix
		readError     api.Errno
		order         int
	}
	answersOf := func(p, q api.Prefix) answers {
		var a answers
		a.right, a.covers, a.order, a.cut = addr.Right(p), addr.Covers(p, q), addr.Cmp(p, q), addr.Cut(p)
		a.text, a.textError = addr.Text(p)
		a.read, a.readError = addr.Read(a.text)
		return a
	}
	for i, p := range l {
		q := l[len(l)-1-i]
		first := answersOf(p, q)
		for _, other := range l {
			answersOf(other, p)
		}
		if p != l[i] || q != l[len(l)-1-i] {
			t.Errorf("%v or %v was modified", l[i], q)
		}
		if again := answersOf(p, q); again != first {
			t.Errorf("the results for %v and %v were %v, and are %v", p, q, first, again)
		}
	}
}
