package span_test

import (
	"bytes"
	"iter"
	"math"
	"math/big"
	"math/rand"
	"net/netip"
	"slices"
	"testing"

	"lanyard/addr"
	"lanyard/api"
	"lanyard/span"
)

func bitsOf(v6 bool) int {
	if v6 {
		return 128
	}
	return 32
}

func power(n int) *big.Int {
	return new(big.Int).Lsh(big.NewInt(1), uint(n))
}

func plus(n *big.Int, more int64) *big.Int {
	return new(big.Int).Add(n, big.NewInt(more))
}

// mostOf returns the number of the last address of a family.
func mostOf(v6 bool) *big.Int {
	return plus(power(bitsOf(v6)), -1)
}

func addressOf(v6 bool, n *big.Int) [16]byte {
	var address [16]byte
	n.FillBytes(address[:bitsOf(v6)/8])
	return address
}

func numberOf(v6 bool, address [16]byte) *big.Int {
	return new(big.Int).SetBytes(address[:bitsOf(v6)/8])
}

func between(v6 bool, lo, hi *big.Int) api.Span {
	return api.Span{V6: v6, Lo: addressOf(v6, lo), Hi: addressOf(v6, hi)}
}

func parsed(text string) (bool, [16]byte) {
	a := netip.MustParseAddr(text)
	var address [16]byte
	copy(address[:], a.AsSlice())
	return a.Is6(), address
}

func s(lo, hi string) api.Span {
	v6, from := parsed(lo)
	_, to := parsed(hi)
	return api.Span{V6: v6, Lo: from, Hi: to}
}

func p(text string) api.Prefix {
	prefix := netip.MustParsePrefix(text)
	v6, address := parsed(prefix.Addr().String())
	return api.Prefix{V6: v6, Addr: address, Len: prefix.Bits()}
}

func filled(v6 bool, length int, value byte) api.Prefix {
	return api.Prefix{V6: v6, Addr: [16]byte(bytes.Repeat([]byte{value}, 16)), Len: length}
}

// wantRight follows the definition of a valid span.
func wantRight(s api.Span) bool {
	if slices.Compare(s.Lo[:], s.Hi[:]) > 0 {
		return false
	}
	for i := 4; i < 16; i++ {
		if !s.V6 && (s.Lo[i] != 0 || s.Hi[i] != 0) {
			return false
		}
	}
	return true
}

// wrong are spans that are not valid, most of which would be if one thing about them were overlooked.
func wrong() []api.Span {
	l := []api.Span{
		s("10.0.0.1", "10.0.0.0"),
		s("255.255.255.255", "0.0.0.0"),
		s("1.0.0.0", "0.255.255.255"),
		s("::1", "::"),
		s("ffff:ffff:ffff:ffff:ffff:ffff:ffff:ffff", "::"),
		s("2001:db8::", "2001:db7:ffff:ffff:ffff:ffff:ffff:ffff"),
		{Lo: filled(false, 0, 255).Addr, Hi: filled(false, 0, 255).Addr},
		{Hi: filled(false, 0, 255).Addr},
	}
	for i := 4; i < 16; i++ {
		var low, high api.Span
		high.Hi[i] = 1
		low.Lo[i], low.Hi[0] = 1, 1
		both := high
		both.Lo[i] = 1
		l = append(l, low, high, both)
	}
	return l
}

// A window is some addresses in a row. A set of them is a number whose bit i tells whether the i-th one is in it.
type window struct {
	v6   bool
	from *big.Int
	many int
}

func (w window) span(lo, hi int) api.Span {
	return between(w.v6, plus(w.from, int64(lo)), plus(w.from, int64(hi)))
}

// every returns all spans of the window's addresses, and some that are not valid, and would have some of these addresses.
func (w window) every() []api.Span {
	var l []api.Span
	for lo := range w.many {
		for hi := lo; hi < w.many; hi++ {
			l = append(l, w.span(lo, hi))
		}
	}
	backward := w.span(w.many-1, 0)
	if w.v6 {
		return append(l, backward)
	}
	other := w.span(0, w.many-1)
	other.Hi[15] = 1
	return append(l, backward, other)
}

func (w window) set(l []api.Span) uint64 {
	var set uint64
	for i := range w.many {
		if has(l, w.v6, addressOf(w.v6, plus(w.from, int64(i)))) {
			set |= 1 << i
		}
	}
	return set
}

// list returns the normalized list of a set: the runs of bits that are 1.
func (w window) list(set uint64) []api.Span {
	var l []api.Span
	for i := 0; i < w.many; i++ {
		start := i
		for set>>i&1 == 1 && i < w.many {
			i++
		}
		if i > start {
			l = append(l, w.span(start, i-1))
		}
	}
	return l
}

// windows stand at both ends of both families, and where several bytes change from one address to the next one.
func windows(many int) []window {
	var l []window
	for _, v6 := range []bool{false, true} {
		l = append(l, window{v6, new(big.Int), many}, window{v6, plus(mostOf(v6), int64(1-many)), many})
		for _, carry := range []int{8, 16, 24, 31, 32, 64, 120, 127} {
			if carry < bitsOf(v6) {
				l = append(l, window{v6, plus(power(carry), int64(-many/2)), many})
			}
		}
	}
	return l
}

func same[E comparable](t *testing.T, what string, got, want []E) {
	t.Helper()
	if !slices.Equal(got, want) {
		t.Fatalf("%s: %v, not %v", what, got, want)
	}
}

// normalized follows the definition, with numbers instead of addresses.
func normalized(l []api.Span) bool {
	for i, s := range l {
		if !wantRight(s) {
			return false
		}
		if i == 0 {
			continue
		}
		before := l[i-1]
		if before.V6 && !s.V6 {
			return false
		}
		if before.V6 == s.V6 && numberOf(s.V6, s.Lo).Cmp(plus(numberOf(s.V6, before.Hi), 1)) <= 0 {
			return false
		}
	}
	return true
}

func has(l []api.Span, v6 bool, address [16]byte) bool {
	return slices.ContainsFunc(l, func(s api.Span) bool {
		return wantRight(s) && s.V6 == v6 && bytes.Compare(s.Lo[:], address[:]) <= 0 && bytes.Compare(address[:], s.Hi[:]) <= 0
	})
}

type place struct {
	v6      bool
	address [16]byte
}

// ends are all the addresses where a list of these spans may change: the first and last ones, and those beside them. Lists of spans from these ends that have the same ones of them have the same addresses.
func ends(lists ...[]api.Span) []place {
	var l []place
	for _, s := range slices.Concat(lists...) {
		for _, address := range [][16]byte{s.Lo, s.Hi} {
			n := numberOf(s.V6, address)
			for more := int64(-1); more <= 1; more++ {
				if m := plus(n, more); m.Sign() >= 0 && m.Cmp(mostOf(s.V6)) <= 0 {
					l = append(l, place{s.V6, addressOf(s.V6, m)})
				}
			}
		}
	}
	return l
}

func randomAddress(r *rand.Rand, v6 bool) *big.Int {
	n := new(big.Int).Rand(r, power(bitsOf(v6)))
	switch r.Intn(3) {
	case 0:
		return n.Rsh(n, uint(r.Intn(bitsOf(v6)))) // often small
	case 1:
		low := plus(power(r.Intn(bitsOf(v6))), -1) // ends with bits that are 1, or that are 0
		if r.Intn(2) == 0 {
			return n.Or(n, low)
		}
		return n.AndNot(n, low)
	}
	return n
}

func randomSpan(r *rand.Rand) api.Span {
	v6 := r.Intn(2) == 0
	lo, hi := randomAddress(r, v6), randomAddress(r, v6)
	if lo.Cmp(hi) > 0 {
		lo, hi = hi, lo
	}
	return between(v6, lo, hi)
}

// randomLists are the same ones in every run. Their spans often touch or overlap, and some are not valid.
func randomLists(many int) [][]api.Span {
	r := rand.New(rand.NewSource(11))
	bad := wrong()
	var lists [][]api.Span
	for range many {
		var l []api.Span
		for range r.Intn(8) {
			s := randomSpan(r)
			if len(l) > 0 && r.Intn(2) == 0 { // from right after, at, or right before the end of another one
				other := l[r.Intn(len(l))]
				n := plus(numberOf(other.V6, other.Hi), int64(r.Intn(4)-1))
				if n.Sign() >= 0 && n.Cmp(mostOf(other.V6)) <= 0 {
					s.V6, s.Lo, s.Hi = other.V6, addressOf(other.V6, n), addressOf(other.V6, mostOf(other.V6))
				}
			}
			if r.Intn(8) == 0 {
				s = bad[r.Intn(len(bad))]
			}
			l = append(l, s)
		}
		lists = append(lists, l)
	}
	return lists
}

// P11.1

func TestRight(t *testing.T) {
	valid := []api.Span{
		{}, {V6: true},
		s("10.0.0.1", "10.0.0.1"), s("10.0.0.1", "10.0.0.4"), s("0.0.0.0", "255.255.255.255"), s("0.255.255.255", "1.0.0.0"),
		s("255.255.255.255", "255.255.255.255"), s("127.255.255.255", "128.0.0.0"),
		s("::", "ffff:ffff:ffff:ffff:ffff:ffff:ffff:ffff"), s("::", "::1"), s("2001:db8::", "2001:db8::"),
		s("::ffff", "::1:0"), s("7fff::", "8000::"),
	}
	for _, s := range valid {
		if !span.Right(s) || !wantRight(s) {
			t.Error(s)
		}
	}
	for _, s := range wrong() {
		if span.Right(s) || wantRight(s) {
			t.Error(s)
		}
	}
}

func TestRightOfBits(t *testing.T) {
	var addresses [][16]byte
	for _, base := range [][16]byte{{}, {10}, {10, 0, 0, 1}, filled(true, 0, 127).Addr, filled(true, 0, 255).Addr} {
		addresses = append(addresses, base)
		for bit := range 128 {
			other := base
			other[bit/8] ^= 128 >> (bit % 8)
			addresses = append(addresses, other)
		}
	}
	for _, lo := range addresses {
		for _, hi := range addresses {
			for _, v6 := range []bool{false, true} {
				if s := (api.Span{V6: v6, Lo: lo, Hi: hi}); span.Right(s) != wantRight(s) {
					t.Fatal(s)
				}
			}
		}
	}
}

func TestOf(t *testing.T) {
	for text, want := range map[string]api.Span{
		"0.0.0.0/0":          s("0.0.0.0", "255.255.255.255"),
		"0.0.0.0/32":         s("0.0.0.0", "0.0.0.0"),
		"10.0.0.0/8":         s("10.0.0.0", "10.255.255.255"),
		"10.0.0.2/31":        s("10.0.0.2", "10.0.0.3"),
		"10.16.0.0/12":       s("10.16.0.0", "10.31.255.255"),
		"255.255.255.255/32": s("255.255.255.255", "255.255.255.255"),
		"128.0.0.0/1":        s("128.0.0.0", "255.255.255.255"),
		"::/0":               s("::", "ffff:ffff:ffff:ffff:ffff:ffff:ffff:ffff"),
		"2001:db8::/32":      s("2001:db8::", "2001:db8:ffff:ffff:ffff:ffff:ffff:ffff"),
		"2001:db8::/33":      s("2001:db8::", "2001:db8:7fff:ffff:ffff:ffff:ffff:ffff"),
		"::1/128":            s("::1", "::1"),
		"fe80::/10":          s("fe80::", "febf:ffff:ffff:ffff:ffff:ffff:ffff:ffff"),
	} {
		if got, e := span.Of(p(text)); got != want || e != api.OK {
			t.Error(text, got, e)
		}
	}
}

func TestOfAllLengths(t *testing.T) {
	r := rand.New(rand.NewSource(1))
	for _, v6 := range []bool{false, true} {
		for length := 0; length <= bitsOf(v6); length++ {
			for try := range 20 {
				prefix := filled(v6, length, []byte{0, 255, 85, 170}[try%4])
				if try >= 4 {
					prefix.Addr = addressOf(v6, randomAddress(r, v6))
				}
				prefix = addr.Cut(prefix)
				lo := numberOf(v6, prefix.Addr)
				hi := plus(new(big.Int).Add(lo, power(bitsOf(v6)-length)), -1)
				got, e := span.Of(prefix)
				if got != between(v6, lo, hi) || e != api.OK || !span.Right(got) {
					t.Fatal(prefix, got, e)
				}
			}
		}
	}
}

func TestOfWrong(t *testing.T) {
	var l []api.Prefix
	for _, v6 := range []bool{false, true} {
		most := bitsOf(v6)
		for _, length := range []int{-1, -8, most + 1, most + 8, 255, 256, 256 + most, math.MaxInt, math.MinInt} {
			l = append(l, api.Prefix{V6: v6, Len: length}, filled(v6, length, 255))
		}
		for length := range most {
			for bit := length; bit < 128; bit++ {
				other := api.Prefix{V6: v6, Len: length}
				other.Addr[bit/8] |= 128 >> (bit % 8)
				l = append(l, other)
			}
		}
	}
	l = append(l, filled(false, 32, 255), filled(false, 8, 10), p("10.0.0.1/8"), p("2001:db8::1/127"))
	for _, prefix := range l {
		if got, e := span.Of(prefix); got != (api.Span{}) || e != api.ErrArg {
			t.Fatal(prefix, got, e)
		}
	}
}

// P11.2

func TestJoin(t *testing.T) {
	all := s("0.0.0.0", "255.255.255.255")
	all6 := s("::", "ffff:ffff:ffff:ffff:ffff:ffff:ffff:ffff")
	for _, c := range []struct{ l, want []api.Span }{
		{nil, nil},
		{[]api.Span{}, nil},
		{[]api.Span{s("10.0.0.0", "10.0.0.9"), s("10.0.0.10", "10.0.0.20")}, []api.Span{s("10.0.0.0", "10.0.0.20")}},
		{[]api.Span{s("10.0.0.10", "10.0.0.20"), s("10.0.0.0", "10.0.0.9")}, []api.Span{s("10.0.0.0", "10.0.0.20")}},
		{[]api.Span{s("10.0.0.0", "10.0.0.9"), s("10.0.0.11", "10.0.0.20")}, []api.Span{s("10.0.0.0", "10.0.0.9"), s("10.0.0.11", "10.0.0.20")}},
		{[]api.Span{s("10.0.0.0", "10.0.0.9"), s("10.0.0.3", "10.0.0.5")}, []api.Span{s("10.0.0.0", "10.0.0.9")}},
		{[]api.Span{s("10.0.0.0", "10.0.0.5"), s("10.0.0.3", "10.0.0.9")}, []api.Span{s("10.0.0.0", "10.0.0.9")}},
		{[]api.Span{s("10.0.0.0", "10.0.0.5"), s("10.0.0.0", "10.0.0.5")}, []api.Span{s("10.0.0.0", "10.0.0.5")}},
		{[]api.Span{s("10.0.0.0", "10.0.0.9"), s("10.0.0.1", "10.0.0.2"), s("10.0.0.10", "10.0.0.10")}, []api.Span{s("10.0.0.0", "10.0.0.10")}},
		{[]api.Span{s("9.255.255.0", "9.255.255.255"), s("10.0.0.0", "10.0.0.0")}, []api.Span{s("9.255.255.0", "10.0.0.0")}},
		{[]api.Span{s("0.0.0.0", "127.255.255.255"), s("128.0.0.0", "255.255.255.255")}, []api.Span{all}},
		{[]api.Span{s("255.255.255.255", "255.255.255.255"), s("0.0.0.0", "0.0.0.0")}, []api.Span{s("0.0.0.0", "0.0.0.0"), s("255.255.255.255", "255.255.255.255")}},
		{[]api.Span{all, s("0.0.0.0", "0.0.0.0"), s("255.255.255.255", "255.255.255.255")}, []api.Span{all}},
		{[]api.Span{s("::", "::"), all}, []api.Span{all, s("::", "::")}},
		{[]api.Span{s("::", "::5"), s("0.0.0.0", "0.0.0.5")}, []api.Span{s("0.0.0.0", "0.0.0.5"), s("::", "::5")}},
		{[]api.Span{s("::", "::5"), s("::6", "::ffff"), s("::1:0", "::1:0")}, []api.Span{s("::", "::1:0")}},
		{[]api.Span{s("::1", "ffff:ffff:ffff:ffff:ffff:ffff:ffff:ffff"), s("::", "::")}, []api.Span{all6}},
		{[]api.Span{s("ffff:ffff:ffff:ffff:ffff:ffff:ffff:ffff", "ffff:ffff:ffff:ffff:ffff:ffff:ffff:ffff"), s("::", "::")},
			[]api.Span{s("::", "::"), s("ffff:ffff:ffff:ffff:ffff:ffff:ffff:ffff", "ffff:ffff:ffff:ffff:ffff:ffff:ffff:ffff")}},
		{[]api.Span{s("a00::", "a00::"), s("10.0.0.0", "10.0.0.0")}, []api.Span{s("10.0.0.0", "10.0.0.0"), s("a00::", "a00::")}},
		{wrong(), nil},
		{append(wrong(), s("10.0.0.0", "10.0.0.1")), []api.Span{s("10.0.0.0", "10.0.0.1")}},
	} {
		same(t, "Join", span.Join(c.l), c.want)
	}
}

func TestJoinInWindows(t *testing.T) {
	for _, w := range windows(6) {
		l := append(w.every(), w.span(0, 0))
		for _, a := range l {
			for _, b := range l {
				for _, c := range l {
					list := []api.Span{a, b, c}
					same(t, "Join", span.Join(list), w.list(w.set(list)))
				}
			}
		}
	}
}

func TestJoinOfSets(t *testing.T) {
	for _, w := range windows(10) {
		for set := range uint64(1) << w.many {
			want := w.list(set)
			var hosts []api.Span
			for i := w.many - 1; i >= 0; i-- {
				if set>>i&1 == 1 {
					hosts = append(hosts, w.span(i, i))
				}
			}
			same(t, "Join of addresses", span.Join(hosts), want)
			same(t, "Join of a normalized list", span.Join(want), want)
		}
	}
}

func TestJoinOfBothFamilies(t *testing.T) {
	v4 := window{false, plus(mostOf(false), -4), 5}
	v6 := window{true, new(big.Int), 5}
	for set := range uint64(1) << 10 {
		parts := []([]api.Span){v4.list(set & 31), v6.list(set >> 5)}
		want := slices.Concat(parts[0], parts[1])
		same(t, "Join", span.Join(slices.Concat(parts[1], parts[0])), want)
		same(t, "Join", span.Join(want), want)
	}
}

func TestJoinOfRandomLists(t *testing.T) {
	r := rand.New(rand.NewSource(2))
	for _, l := range randomLists(3000) {
		joined := span.Join(l)
		if !normalized(joined) {
			t.Fatal(l, joined)
		}
		for _, at := range ends(l, joined) {
			if has(l, at.v6, at.address) != has(joined, at.v6, at.address) {
				t.Fatal(l, joined, at)
			}
		}
		same(t, "Join of the Join", span.Join(joined), joined)
		mixed := append(slices.Clone(l), l...)
		r.Shuffle(len(mixed), func(i, j int) { mixed[i], mixed[j] = mixed[j], mixed[i] })
		same(t, "Join in another order", span.Join(mixed), joined)
	}
}

func TestJoinOfManySpans(t *testing.T) {
	var apart, touching []api.Span
	for i := range int64(50000) {
		apart = append(apart, between(true, big.NewInt(3*i), big.NewInt(3*i+1)))
		touching = append(touching, between(false, big.NewInt(3*i), big.NewInt(3*i+2)))
	}
	want := append([]api.Span{between(false, new(big.Int), big.NewInt(149999))}, apart...)
	mixed := slices.Concat(apart, touching)
	rand.New(rand.NewSource(3)).Shuffle(len(mixed), func(i, j int) { mixed[i], mixed[j] = mixed[j], mixed[i] })
	same(t, "Join", span.Join(mixed), want)
	same(t, "Both", span.Both(mixed, apart), apart)
	if !span.Within(apart, mixed) || span.Within(mixed, apart) {
		t.Error("Within")
	}
}

// P11.3

func TestWithin(t *testing.T) {
	ten := []api.Span{s("10.0.0.0", "10.255.255.255")}
	halves := []api.Span{s("10.128.0.0", "10.255.255.255"), s("10.0.0.0", "10.127.255.255")}
	gap := []api.Span{s("10.0.0.0", "10.127.255.255"), s("10.128.0.1", "10.255.255.255")}
	for _, c := range []struct {
		a, b []api.Span
		want bool
	}{
		{nil, nil, true},
		{nil, ten, true},
		{[]api.Span{}, ten, true},
		{ten, nil, false},
		{ten, ten, true},
		{ten, halves, true},
		{halves, ten, true},
		{ten, gap, false},
		{gap, ten, true},
		{[]api.Span{s("10.0.0.0", "10.0.0.0")}, ten, true},
		{[]api.Span{s("10.255.255.255", "10.255.255.255")}, ten, true},
		{[]api.Span{s("9.255.255.255", "10.0.0.0")}, ten, false},
		{[]api.Span{s("10.255.255.255", "11.0.0.0")}, ten, false},
		{[]api.Span{s("11.0.0.0", "11.0.0.0")}, ten, false},
		{[]api.Span{s("10.0.0.0", "10.0.0.0"), s("11.0.0.0", "11.0.0.0")}, ten, false},
		{[]api.Span{s("a00::", "a00::")}, ten, false},
		{[]api.Span{s("10.0.0.0", "10.0.0.0")}, []api.Span{s("a00::", "aff::")}, false},
		{[]api.Span{s("a00::", "a00::")}, []api.Span{s("10.0.0.0", "10.0.0.0"), s("a00::", "aff::")}, true},
		{wrong(), nil, true},
		{append(wrong(), ten...), wrong(), false},
		{append(wrong(), ten...), append(wrong(), halves...), true},
		{[]api.Span{s("0.0.0.0", "255.255.255.255")}, []api.Span{s("255.255.255.255", "0.0.0.0")}, false},
	} {
		if span.Within(c.a, c.b) != c.want {
			t.Error(c)
		}
	}
}

func TestBoth(t *testing.T) {
	ten := []api.Span{s("10.0.0.0", "10.255.255.255")}
	halves := []api.Span{s("10.128.0.0", "10.255.255.255"), s("10.0.0.0", "10.127.255.255")}
	for _, c := range []struct{ a, b, want []api.Span }{
		{nil, nil, nil},
		{nil, ten, nil},
		{ten, ten, ten},
		{ten, halves, ten},
		{halves, halves, ten},
		{[]api.Span{s("9.0.0.0", "10.0.0.5")}, ten, []api.Span{s("10.0.0.0", "10.0.0.5")}},
		{[]api.Span{s("10.255.255.255", "12.0.0.0")}, ten, []api.Span{s("10.255.255.255", "10.255.255.255")}},
		{[]api.Span{s("11.0.0.0", "12.0.0.0")}, ten, nil},
		{[]api.Span{s("0.0.0.0", "255.255.255.255")}, ten, ten},
		{[]api.Span{s("a00::", "aff::")}, ten, nil},
		{[]api.Span{s("::", "::9"), s("10.0.0.1", "10.0.0.2")}, []api.Span{s("10.0.0.2", "10.0.0.3"), s("::4", "::ffff")},
			[]api.Span{s("10.0.0.2", "10.0.0.2"), s("::4", "::9")}},
		{[]api.Span{s("10.0.0.1", "10.0.0.3"), s("10.0.0.5", "10.0.0.8")}, []api.Span{s("10.0.0.2", "10.0.0.6"), s("10.0.0.8", "10.0.0.9")},
			[]api.Span{s("10.0.0.2", "10.0.0.3"), s("10.0.0.5", "10.0.0.6"), s("10.0.0.8", "10.0.0.8")}},
		{wrong(), ten, nil},
		{append(wrong(), ten...), append(wrong(), halves...), ten},
		{append(wrong(), ten...), wrong(), nil},
	} {
		same(t, "Both", span.Both(c.a, c.b), c.want)
		same(t, "Both", span.Both(c.b, c.a), c.want)
	}
}

func TestWithinAndBothInWindows(t *testing.T) {
	for _, w := range windows(6) {
		most := uint64(1) << w.many
		for a := range most {
			for b := range most {
				x, y := w.list(a), w.list(b)
				slices.Reverse(x)
				if span.Within(x, y) != (a&^b == 0) {
					t.Fatal(x, y)
				}
				same(t, "Both", span.Both(x, y), w.list(a&b))
			}
		}
	}
}

func TestWithinAndBothOfOverlappingSpans(t *testing.T) {
	for _, w := range windows(4) {
		l := w.every()
		for _, s := range l {
			for _, a := range l {
				for _, b := range l {
					for _, c := range l[:len(l)/2] {
						x, y := []api.Span{s, a}, []api.Span{b, c}
						if span.Within(x, y) != (w.set(x)&^w.set(y) == 0) {
							t.Fatal(x, y)
						}
						same(t, "Both", span.Both(x, y), w.list(w.set(x)&w.set(y)))
					}
				}
			}
		}
	}
}

func TestWithinAndBothOfRandomLists(t *testing.T) {
	lists := randomLists(3000)
	for i, a := range lists {
		b := lists[(i+1)%len(lists)]
		if i%3 == 0 {
			b = append(slices.Clone(b), a...) // so a is within it
		}
		both := span.Both(a, b)
		if !normalized(both) {
			t.Fatal(a, b, both)
		}
		within := true
		for _, at := range ends(a, b, both) {
			inA, inB := has(a, at.v6, at.address), has(b, at.v6, at.address)
			if has(both, at.v6, at.address) != (inA && inB) {
				t.Fatal(a, b, both, at)
			}
			within = within && (inB || !inA)
		}
		if span.Within(a, b) != within {
			t.Fatal(a, b, within)
		}
	}
}

// P11.4

// wantPrefixes follows the promise, with numbers instead of addresses.
func wantPrefixes(s api.Span) []api.Prefix {
	var l []api.Prefix
	if !wantRight(s) {
		return nil
	}
	at, hi, bits := numberOf(s.V6, s.Lo), numberOf(s.V6, s.Hi), bitsOf(s.V6)
	for at.Cmp(hi) <= 0 {
		for length := 0; ; length++ {
			size := power(bits - length)
			end := new(big.Int).Add(at, size)
			if new(big.Int).Mod(at, size).Sign() == 0 && plus(end, -1).Cmp(hi) <= 0 {
				l = append(l, api.Prefix{V6: s.V6, Addr: addressOf(s.V6, at), Len: length})
				at = end
				break
			}
		}
	}
	return l
}

func TestPrefixes(t *testing.T) {
	for _, c := range []struct {
		s    api.Span
		want []api.Prefix
	}{
		{s("10.0.0.1", "10.0.0.4"), []api.Prefix{p("10.0.0.1/32"), p("10.0.0.2/31"), p("10.0.0.4/32")}},
		{s("10.0.0.0", "10.0.0.2"), []api.Prefix{p("10.0.0.0/31"), p("10.0.0.2/32")}},
		{s("10.0.0.0", "10.255.255.255"), []api.Prefix{p("10.0.0.0/8")}},
		{s("0.0.0.0", "255.255.255.255"), []api.Prefix{p("0.0.0.0/0")}},
		{s("0.0.0.0", "0.0.0.0"), []api.Prefix{p("0.0.0.0/32")}},
		{s("255.255.255.255", "255.255.255.255"), []api.Prefix{p("255.255.255.255/32")}},
		{s("255.255.255.253", "255.255.255.255"), []api.Prefix{p("255.255.255.253/32"), p("255.255.255.254/31")}},
		{s("127.255.255.255", "128.0.0.0"), []api.Prefix{p("127.255.255.255/32"), p("128.0.0.0/32")}},
		{s("::", "ffff:ffff:ffff:ffff:ffff:ffff:ffff:ffff"), []api.Prefix{p("::/0")}},
		{s("::1", "::4"), []api.Prefix{p("::1/128"), p("::2/127"), p("::4/128")}},
		{s("8000::", "ffff:ffff:ffff:ffff:ffff:ffff:ffff:ffff"), []api.Prefix{p("8000::/1")}},
		{s("2001:db8::", "2001:dba:ffff:ffff:ffff:ffff:ffff:ffff"), []api.Prefix{p("2001:db8::/31"), p("2001:dba::/32")}},
	} {
		same(t, "Prefixes", slices.Collect(span.Prefixes(c.s)), c.want)
	}
}

// prefixSpans are spans of every kind, the same in every run.
func prefixSpans() []api.Span {
	var l []api.Span
	for _, w := range windows(16) {
		l = append(l, w.every()...)
	}
	for _, v6 := range []bool{false, true} {
		most := mostOf(v6)
		for n := range 5 {
			for m := range 5 {
				l = append(l, between(v6, big.NewInt(int64(n)), plus(most, int64(-m))))
			}
		}
		for bit := range bitsOf(v6) {
			l = append(l, between(v6, new(big.Int), power(bit)), between(v6, power(bit), most), between(v6, plus(power(bit), -1), most))
		}
	}
	r := rand.New(rand.NewSource(4))
	for range 500 {
		l = append(l, randomSpan(r))
	}
	return l
}

func TestPrefixesOfAllKinds(t *testing.T) {
	for _, s := range prefixSpans() {
		same(t, "Prefixes", slices.Collect(span.Prefixes(s)), wantPrefixes(s))
	}
}

func TestPrefixesOfWrongSpans(t *testing.T) {
	for _, s := range wrong() {
		l := span.Prefixes(s)
		if l == nil {
			t.Fatal(s)
		}
		for p := range l {
			t.Fatal(s, p)
		}
	}
}

// taken returns the first prefixes, as many as most, and how many there were after the last one that was asked for.
func taken(l iter.Seq[api.Prefix], most int) (first []api.Prefix, beyond int) {
	l(func(p api.Prefix) bool {
		if len(first) == most {
			beyond++
			return false
		}
		first = append(first, p)
		return len(first) < most
	})
	return first, beyond
}

func TestPrefixesStoppedAndAgain(t *testing.T) {
	for _, s := range []api.Span{s("10.0.0.1", "10.0.0.4"), s("0.0.0.1", "255.255.255.254"), s("::1", "ffff:ffff:ffff:ffff:ffff:ffff:ffff:fffe"), s("::", "::")} {
		l, want := span.Prefixes(s), wantPrefixes(s)
		for most := 1; most <= len(want); most++ {
			first, beyond := taken(l, most)
			same(t, "stopped", first, want[:most])
			if beyond != 0 {
				t.Fatal(s, most, beyond)
			}
			same(t, "again", slices.Collect(l), want)
		}
	}
}

func TestPrefixesWithinOneAnother(t *testing.T) {
	l := span.Prefixes(s("10.0.0.1", "10.0.0.4"))
	want := slices.Collect(l)
	var outer, inner []api.Prefix
	for p := range l {
		outer = append(outer, p)
		inner = append(inner, slices.Collect(l)...)
	}
	same(t, "outer", outer, want)
	same(t, "inner", inner, slices.Repeat(want, len(want)))
}

// P11.5

func TestPrefixesMakeUpTheSpan(t *testing.T) {
	for _, s := range prefixSpans() {
		if !span.Right(s) {
			continue
		}
		var l []api.Span
		for p := range span.Prefixes(s) {
			part, e := span.Of(p)
			if e != api.OK || len(l) > 0 && bytes.Compare(part.Lo[:], l[len(l)-1].Hi[:]) <= 0 {
				t.Fatal(s, p, e)
			}
			l = append(l, part)
		}
		same(t, "Join of the prefixes", span.Join(l), []api.Span{s})
		if len(l) > 8 {
			continue
		}
		for i := range l {
			if common := span.Both(l[:i], l[i:]); len(common) > 0 {
				t.Fatal(s, common)
			}
		}
	}
}

func TestWithinIsTransitive(t *testing.T) {
	w := window{false, big.NewInt(254), 4}
	most := uint64(1) << w.many
	for a := range most {
		for b := range most {
			for c := range most {
				x, y, z := w.list(a), w.list(b), w.list(c)
				if span.Within(x, y) && span.Within(y, z) && !span.Within(x, z) {
					t.Fatal(x, y, z)
				}
			}
		}
	}
}

func TestBothIsWithin(t *testing.T) {
	lists := randomLists(1000)
	for i, a := range lists {
		b := lists[(i+7)%len(lists)]
		both := span.Both(a, b)
		if !span.Within(both, a) || !span.Within(both, b) || !span.Within(a, a) || !span.Within(a, span.Join(a)) || !span.Within(span.Join(a), a) {
			t.Fatal(a, b, both)
		}
		if span.Within(a, b) {
			same(t, "Both", both, span.Join(a))
		}
		same(t, "Both the other way round", span.Both(b, a), both)
	}
}

// R3 and R4

func TestArgumentsStayAndResultsAreNew(t *testing.T) {
	lists := append(randomLists(300), []api.Span{s("10.0.0.0", "10.0.0.9"), s("10.0.0.20", "10.0.0.29"), s("::", "::5")})
	for i, a := range lists {
		b := lists[(i+3)%len(lists)]
		if i%2 == 0 {
			a, b = span.Join(a), span.Join(b)
		}
		a, b = slices.Grow(a, 4), slices.Grow(b, 4)
		behind := a[:cap(a)][len(a):]
		behind[0] = s("9.9.9.9", "9.9.9.9")
		keptA, keptB := slices.Clone(a), slices.Clone(b)
		joined, both, within := span.Join(a), span.Both(a, b), span.Within(a, b)
		keptJoined, keptBoth := slices.Clone(joined), slices.Clone(both)
		same(t, "a", a, keptA)
		same(t, "b", b, keptB)
		if behind[0] != s("9.9.9.9", "9.9.9.9") {
			t.Fatal("memory behind an argument was changed")
		}
		wipe(joined)
		same(t, "a", a, keptA)
		same(t, "Both", both, keptBoth)
		wipe(both)
		same(t, "a", a, keptA)
		same(t, "b", b, keptB)
		same(t, "Join again", span.Join(a), keptJoined)
		same(t, "Both again", span.Both(a, b), keptBoth)
		if span.Within(a, b) != within {
			t.Fatal(a, b)
		}
	}
}

// wipe changes all of a list's memory, also what is behind its last element.
func wipe(l []api.Span) {
	l = l[:cap(l)]
	for i := range l {
		l[i] = s("1.2.3.4", "5.6.7.8")
	}
}
