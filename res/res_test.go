package res_test

import (
	"bytes"
	"math"
	"math/big"
	"math/rand"
	"net/netip"
	"slices"
	"testing"

	"lanyard/addr"
	"lanyard/api"
	"lanyard/asn"
	"lanyard/res"
	"lanyard/scalar"
	"lanyard/span"
	"lanyard/tlv"
)

const most = math.MaxUint32

func parsed(text string) (bool, [16]byte) {
	a := netip.MustParseAddr(text)
	var address [16]byte
	copy(address[:], a.AsSlice())
	return a.Is6(), address
}

func s(lo, hi string) api.Span {
	v6, from := parsed(lo)
	_, to := parsed(hi)
	return api.Span{V6: v6, Lo: from, Hi: to}
}

func r(lo, hi uint32) api.Range {
	return api.Range{Lo: lo, Hi: hi}
}

func p(text string) api.Prefix {
	prefix := netip.MustParsePrefix(text)
	v6, address := parsed(prefix.Addr().String())
	return api.Prefix{V6: v6, Addr: address, Len: prefix.Bits()}
}

// of returns the resources of some spans and ranges, in their order.
func of(spans []api.Span, ases ...api.Range) api.Res {
	return api.Res{Spans: spans, Ases: ases}
}

func spans(l ...api.Span) []api.Span {
	return l
}

func inherit() api.Res {
	return api.Res{Inherit: true}
}

// all are the resources that contain every address and every number.
func all() api.Res {
	return of(spans(s("0.0.0.0", "255.255.255.255"), s("::", "ffff:ffff:ffff:ffff:ffff:ffff:ffff:ffff")), r(0, most))
}

func sameRes(a, b api.Res) bool {
	return a.Inherit == b.Inherit && slices.Equal(a.Spans, b.Spans) && slices.Equal(a.Ases, b.Ases)
}

func isZero(r api.Res) bool {
	return sameRes(r, api.Res{})
}

func sameNode(a, b api.Node) bool {
	return a.Tag == b.Tag && bytes.Equal(a.Body, b.Body) && slices.EqualFunc(a.Kids, b.Kids, sameNode)
}

func cloneRes(r api.Res) api.Res {
	r.Spans, r.Ases = slices.Clone(r.Spans), slices.Clone(r.Ases)
	return r
}

func cloneNode(n api.Node) api.Node {
	n.Body, n.Kids = bytes.Clone(n.Body), slices.Clone(n.Kids)
	for i, kid := range n.Kids {
		n.Kids[i] = cloneNode(kid)
	}
	return n
}

func numberOf(v6 bool, address [16]byte) *big.Int {
	if v6 {
		return new(big.Int).SetBytes(address[:])
	}
	return new(big.Int).SetBytes(address[:4])
}

func isSpan(s api.Span) bool {
	if !s.V6 && (!slices.Equal(s.Lo[4:], make([]byte, 12)) || !slices.Equal(s.Hi[4:], make([]byte, 12))) {
		return false
	}
	return numberOf(s.V6, s.Lo).Cmp(numberOf(s.V6, s.Hi)) <= 0
}

// follows reports whether b, by its own, stands rightly behind a in a normalized list.
func follows(a, b api.Span) bool {
	if a.V6 != b.V6 {
		return b.V6
	}
	gap := new(big.Int).Sub(numberOf(b.V6, b.Lo), numberOf(a.V6, a.Hi))
	return gap.Cmp(big.NewInt(1)) > 0
}

// wantRight follows the definition of valid resources, and those of the normalized lists.
func wantRight(r api.Res) bool {
	if r.Inherit {
		return len(r.Spans) == 0 && len(r.Ases) == 0
	}
	for i, s := range r.Spans {
		if !isSpan(s) || i > 0 && !follows(r.Spans[i-1], s) {
			return false
		}
	}
	for i, a := range r.Ases {
		if a.Lo > a.Hi || i > 0 && int64(a.Lo) <= int64(r.Ases[i-1].Hi)+1 {
			return false
		}
	}
	return (len(r.Spans) > 0 || len(r.Ases) > 0) && len(r.Spans) <= 400 && len(r.Ases) <= 400
}

func list(kids ...api.Node) api.Node {
	return api.Node{Tag: 48, Kids: kids}
}

func octets(b ...byte) api.Node {
	return api.Node{Tag: 4, Body: b}
}

func number(b ...byte) api.Node {
	return api.Node{Tag: 2, Body: b}
}

// wantNumber returns the shortest two's complement bytes of n.
func wantNumber(n uint32) api.Node {
	b := new(big.Int).SetUint64(uint64(n)).Bytes()
	if len(b) == 0 || b[0] > 127 {
		b = append([]byte{0}, b...)
	}
	return number(b...)
}

// wantNode follows the promise about the element of valid resources.
func wantNode(r api.Res) api.Node {
	if r.Inherit {
		return api.Node{Tag: 5}
	}
	v4, v6, ases := list(), list(), list()
	for _, s := range r.Spans {
		if s.V6 {
			v6.Kids = append(v6.Kids, octets(s.Lo[:]...), octets(s.Hi[:]...))
		} else {
			v4.Kids = append(v4.Kids, octets(s.Lo[:4]...), octets(s.Hi[:4]...))
		}
	}
	for _, a := range r.Ases {
		ases.Kids = append(ases.Kids, wantNumber(a.Lo), wantNumber(a.Hi))
	}
	return list(v4, v6, ases)
}

// isList reports whether n is a list of pairs.
func isList(n api.Node) bool {
	return n.Tag == 48 && len(n.Body) == 0 && len(n.Kids)%2 == 0
}

func isAddress(n api.Node, size int) bool {
	return n.Tag == 4 && len(n.Kids) == 0 && len(n.Body) == size
}

func readNumber(n api.Node) (uint32, bool) {
	b := n.Body
	if n.Tag != 2 || len(n.Kids) != 0 || len(b) == 0 || len(b) > 5 || b[0] > 127 {
		return 0, false
	}
	if len(b) > 1 && b[0] == 0 && b[1] < 128 {
		return 0, false
	}
	whole := new(big.Int).SetBytes(b).Uint64()
	return uint32(whole), whole <= most
}

// wantRead checks every part of an element, instead of encoding again what it has read.
func wantRead(n api.Node) (api.Res, bool) {
	if n.Tag == 5 {
		return inherit(), len(n.Body) == 0 && len(n.Kids) == 0
	}
	if n.Tag != 48 || len(n.Body) != 0 || len(n.Kids) != 3 || !isList(n.Kids[0]) || !isList(n.Kids[1]) || !isList(n.Kids[2]) {
		return api.Res{}, false
	}
	var read api.Res
	for i, size := range []int{4, 16} {
		for pair := range slices.Chunk(n.Kids[i].Kids, 2) {
			if !isAddress(pair[0], size) || !isAddress(pair[1], size) {
				return api.Res{}, false
			}
			s := api.Span{V6: i == 1}
			copy(s.Lo[:], pair[0].Body)
			copy(s.Hi[:], pair[1].Body)
			read.Spans = append(read.Spans, s)
		}
	}
	for pair := range slices.Chunk(n.Kids[2].Kids, 2) {
		lo, isLo := readNumber(pair[0])
		hi, isHi := readNumber(pair[1])
		if !isLo || !isHi {
			return api.Res{}, false
		}
		read.Ases = append(read.Ases, r(lo, hi))
	}
	return read, wantRight(read)
}

// manySpans returns so many spans, all of them apart.
func manySpans(v6 bool, many int) []api.Span {
	var l []api.Span
	for i := range many {
		address := [16]byte{10, byte(i >> 8), byte(i), 0}
		l = append(l, api.Span{V6: v6, Lo: address, Hi: address})
	}
	return l
}

func manyRanges(many int) []api.Range {
	var l []api.Range
	for i := range uint32(many) {
		l = append(l, r(2*i, 2*i))
	}
	return l
}

// valid are resources with ordinary parts, and with each edge of them.
func valid() []api.Res {
	return []api.Res{
		inherit(),
		all(),
		of(spans(s("10.0.0.0", "10.255.255.255"))),
		of(spans(s("2001:db8::", "2001:db8:ffff:ffff:ffff:ffff:ffff:ffff"))),
		of(nil, r(7, 7)),
		of(nil, r(1, 9), r(11, 20), r(64512, 65534)),
		of(spans(s("10.0.0.0", "10.0.0.9"), s("10.0.0.11", "10.0.0.20"), s("2001:db8::1", "2001:db8::1"), s("2001:db8::3", "2001:db8::4")), r(1, 3), r(5, 6)),
		of(spans(s("0.0.0.0", "0.0.0.0"))),
		of(spans(s("::", "::"))),
		of(spans(s("255.255.255.255", "255.255.255.255"), s("::", "::"))), // of two families, so not adjacent
		of(spans(s("0.0.0.0", "0.0.0.0"), s("255.255.255.255", "255.255.255.255"))),
		of(spans(s("::", "::"), s("ffff:ffff:ffff:ffff:ffff:ffff:ffff:ffff", "ffff:ffff:ffff:ffff:ffff:ffff:ffff:ffff"))),
		of(nil, r(0, 0)),
		of(nil, r(0, 0), r(2, 127), r(129, 255), r(257, 32767), r(32769, 65535), r(65537, 1<<23), r(1<<24, 1<<31-1), r(1<<31+1, most)),
		of(nil, r(most, most)),
		of(nil, r(0, 0), r(most, most)),
		of(manySpans(false, 400), manyRanges(400)...),
		of(manySpans(true, 400)),
		of(append(manySpans(false, 200), manySpans(true, 200)...), r(5, 6)),
		of(append(manySpans(false, 1), manySpans(true, 399)...)),
		of(nil, manyRanges(400)...),
	}
}

// wrongSpans are lists of spans that are not normalized.
func wrongSpans() [][]api.Span {
	behind := s("10.0.0.0", "10.0.0.1")
	behind.Hi[4] = 1
	last := s("10.0.0.0", "10.0.0.1")
	last.Lo[15], last.Hi[15] = 1, 1
	return [][]api.Span{
		{s("10.0.0.1", "10.0.0.0")},
		{s("2001:db8::1", "2001:db8::")},
		{behind},
		{last},
		{s("10.0.0.0", "10.0.0.9"), s("10.0.0.10", "10.0.0.20")}, // adjacent
		{s("10.0.0.0", "10.0.0.255"), s("10.0.1.0", "10.0.1.0")},
		{s("10.0.0.0", "10.0.0.9"), s("10.0.0.9", "10.0.0.20")},
		{s("10.0.0.0", "10.0.0.9"), s("10.0.0.3", "10.0.0.4")},
		{s("10.0.0.0", "10.0.0.9"), s("10.0.0.0", "10.0.0.9")},
		{s("10.0.0.11", "10.0.0.20"), s("10.0.0.0", "10.0.0.9")}, // not in order
		{s("2001:db8::", "2001:db8::1"), s("10.0.0.0", "10.0.0.9")},
		{s("2001:db8::", "2001:db8::ffff"), s("2001:db8::1:0", "2001:db8::1:0")},
		{s("2001:db8::3", "2001:db8::3"), s("2001:db8::1", "2001:db8::1")},
		{s("::", "ffff:ffff:ffff:ffff:ffff:ffff:ffff:ffff"), s("::", "::")},
		{s("10.0.0.0", "10.0.0.9"), s("10.0.0.12", "10.0.0.11")},
		manySpans(false, 401),
		manySpans(true, 401),
		append(manySpans(false, 200), manySpans(true, 201)...),
		append(manySpans(false, 1), manySpans(true, 400)...),
		append(manySpans(false, 400), manySpans(true, 1)...),
		manySpans(false, 65000),
	}
}

func wrongRanges() [][]api.Range {
	return [][]api.Range{
		{r(1, 0)},
		{r(most, 0)},
		{r(1, 3), r(4, 9)}, // adjacent
		{r(1, 3), r(3, 9)},
		{r(1, 9), r(3, 4)},
		{r(1, 3), r(1, 3)},
		{r(5, 9), r(1, 3)}, // not in order
		{r(1, 3), r(9, 8)},
		{r(0, most), r(0, 0)},
		{r(0, most), r(most, most)},
		{r(most, most), r(0, 0)},
		manyRanges(401),
		manyRanges(100000),
	}
}

// wrong are resources that are not valid, most of which would be if one thing about them were overlooked.
func wrong() []api.Res {
	l := []api.Res{
		{},
		{Spans: []api.Span{}, Ases: []api.Range{}},
		{Inherit: true, Spans: spans(s("10.0.0.0", "10.0.0.9"))},
		{Inherit: true, Ases: []api.Range{r(1, 3)}},
		{Inherit: true, Spans: spans(s("10.0.0.0", "10.0.0.9")), Ases: []api.Range{r(1, 3)}},
		{Inherit: true, Spans: spans(s("10.0.0.9", "10.0.0.0"))},
		{Inherit: true, Ases: []api.Range{r(1, 0)}},
	}
	for _, spans := range wrongSpans() {
		l = append(l, of(spans), of(spans, r(1, 3)))
	}
	for _, ranges := range wrongRanges() {
		l = append(l, of(nil, ranges...), of(spans(s("10.0.0.0", "10.0.0.9")), ranges...))
	}
	return l
}

func randomAddress(random *rand.Rand) (bool, [16]byte) {
	var address [16]byte
	if random.Intn(2) == 0 {
		copy(address[:], []byte{10, byte(random.Intn(2)), byte(random.Intn(3)), byte(random.Intn(256))})
		return false, address
	}
	random.Read(address[:])
	if random.Intn(2) == 0 {
		address = [16]byte{32, 1, 13, 184, 15: byte(random.Intn(256))}
	}
	return true, address
}

// randomRes are valid resources, the same ones in every run.
func randomRes(many int) []api.Res {
	random := rand.New(rand.NewSource(13))
	var l []api.Res
	for len(l) < many {
		var ranges []api.Range
		var spans []api.Span
		for range random.Intn(6) {
			v6, lo := randomAddress(random)
			_, hi := randomAddress(random)
			spans = append(spans, api.Span{V6: v6, Lo: lo, Hi: hi}, api.Span{V6: v6, Lo: lo, Hi: lo})
		}
		for range random.Intn(6) {
			n := random.Uint32() >> random.Intn(32)
			ranges = append(ranges, r(n, n|random.Uint32()>>random.Intn(32)))
		}
		if one := of(span.Join(spans), asn.Join(ranges...)...); wantRight(one) {
			l = append(l, one)
		}
	}
	return l
}

// P13.1

func TestRight(t *testing.T) {
	for _, r := range valid() {
		if !wantRight(r) || !res.Right(r) {
			t.Error("not valid:", r)
		}
	}
	for _, r := range wrong() {
		if wantRight(r) || res.Right(r) {
			t.Error("valid:", r)
		}
	}
	if !res.Right(api.Res{Inherit: true, Spans: []api.Span{}, Ases: []api.Range{}}) {
		t.Error("empty lists are like nil ones")
	}
	if !res.Right(api.Res{Spans: []api.Span{}, Ases: []api.Range{r(1, 1)}}) || !res.Right(api.Res{Spans: spans(s("::", "::")), Ases: []api.Range{}}) {
		t.Error("one list is enough")
	}
}

func TestRightOfShortLists(t *testing.T) {
	var some []api.Span
	for _, texts := range [][]string{
		{"0.0.0.0", "0.0.0.1", "0.0.0.2", "0.0.0.3", "255.255.255.254", "255.255.255.255"},
		{"::", "::1", "::2", "::3", "ffff:ffff:ffff:ffff:ffff:ffff:ffff:fffe", "ffff:ffff:ffff:ffff:ffff:ffff:ffff:ffff"},
	} {
		for _, lo := range texts {
			for _, hi := range texts {
				some = append(some, s(lo, hi))
			}
		}
	}
	for _, a := range some {
		for _, b := range some {
			for _, l := range [][]api.Span{{a}, {a, b}, {a, b, s("128.0.0.0", "128.0.0.0")}, {s("0.0.0.0", "0.0.0.1"), a, b}} {
				for _, r := range []api.Res{of(l), of(l, r(1, 1)), of(l, r(1, 0)), {Inherit: true, Spans: l}} {
					if res.Right(r) != wantRight(r) {
						t.Fatal(r)
					}
				}
			}
		}
	}
}

func TestRightOfShortRanges(t *testing.T) {
	var some []api.Range
	for _, lo := range []uint32{0, 1, 2, 3, most - 2, most - 1, most} {
		for _, hi := range []uint32{0, 1, 2, 3, most - 2, most - 1, most} {
			some = append(some, r(lo, hi))
		}
	}
	for _, a := range some {
		for _, b := range some {
			for _, c := range some {
				one := of(nil, a, b, c)
				if res.Right(one) != wantRight(one) {
					t.Fatal(one)
				}
			}
			for _, one := range []api.Res{of(nil, a, b), of(nil, a), of(spans(s("::", "::1")), a, b), of(spans(s("::1", "::")), a), {Inherit: true, Ases: []api.Range{a}}} {
				if res.Right(one) != wantRight(one) {
					t.Fatal(one)
				}
			}
		}
	}
}

func TestNode(t *testing.T) {
	db8 := []byte{32, 1, 13, 184, 0, 0, 0, 0, 0, 0, 0, 0, 0, 0, 0}
	for _, c := range []struct {
		r    api.Res
		want api.Node
	}{
		{inherit(), api.Node{Tag: 5}},
		{of(spans(s("10.0.0.1", "10.0.0.4"))), list(list(octets(10, 0, 0, 1), octets(10, 0, 0, 4)), list(), list())},
		{of(spans(s("2001:db8::1", "2001:db8::ff"))), list(list(), list(octets(append(db8, 1)...), octets(append(slices.Clone(db8), 255)...)), list())},
		{of(nil, r(7, 7)), list(list(), list(), list(number(7), number(7)))},
		{of(nil, r(0, 127), r(129, 255), r(65536, most)), list(list(), list(), list(number(0), number(127), number(0, 129), number(0, 255), number(1, 0, 0), number(0, 255, 255, 255, 255)))},
		{
			of(spans(s("10.0.0.1", "10.0.0.1"), s("11.2.3.4", "255.255.255.255"), s("2001:db8::1", "2001:db8::1")), r(1, 2), r(4, 5)),
			list(
				list(octets(10, 0, 0, 1), octets(10, 0, 0, 1), octets(11, 2, 3, 4), octets(255, 255, 255, 255)),
				list(octets(append(db8, 1)...), octets(append(db8, 1)...)),
				list(number(1), number(2), number(4), number(5)),
			),
		},
	} {
		if n, e := res.Node(c.r); e != api.OK || !sameNode(n, c.want) {
			t.Error(c.r, n, e)
		}
	}
}

func TestNodeInBytes(t *testing.T) {
	n, e := res.Node(of(spans(s("10.0.0.0", "10.255.255.255")), r(300, 300)))
	b, written := tlv.Write(n)
	want := []byte{48, 26, 48, 12, 4, 4, 10, 0, 0, 0, 4, 4, 10, 255, 255, 255, 48, 0, 48, 8, 2, 2, 1, 44, 2, 2, 1, 44}
	if e != api.OK || written != api.OK || !bytes.Equal(b, want) {
		t.Error(b, e, written)
	}
}

func TestNodeOfValidResources(t *testing.T) {
	for _, r := range append(valid(), randomRes(3000)...) {
		if n, e := res.Node(r); e != api.OK || !sameNode(n, wantNode(r)) {
			t.Fatal(r, n, e)
		}
	}
}

func TestNodeOfWrongResources(t *testing.T) {
	for _, r := range wrong() {
		if n, e := res.Node(r); e != api.ErrArg || !sameNode(n, api.Node{}) {
			t.Fatal(r, n, e)
		}
	}
}

// P13.2

func checkRead(t *testing.T, n api.Node) {
	t.Helper()
	want, ok := wantRead(n)
	got, e := res.Read(n)
	switch {
	case ok && (e != api.OK || !sameRes(got, want)):
		t.Fatal("not read:", n, got, e)
	case !ok && (e != api.ErrForm || !isZero(got)):
		t.Fatal("read:", n, got, e)
	}
}

func TestRead(t *testing.T) {
	for _, r := range append(valid(), randomRes(3000)...) {
		n := wantNode(r)
		if got, e := res.Read(n); e != api.OK || !sameRes(got, r) {
			t.Fatal(r, got, e)
		}
		if n.Tag == 5 {
			n.Body, n.Kids = []byte{}, []api.Node{}
		} else {
			n.Body, n.Kids[0].Body, n.Kids[1].Body, n.Kids[2].Body = []byte{}, []byte{}, []byte{}, []byte{}
		}
		if got, e := res.Read(n); e != api.OK || !sameRes(got, r) {
			t.Fatal("empty slices are like nil ones:", r, got, e)
		}
	}
}

func TestReadOfWrongElements(t *testing.T) {
	v4 := list(octets(10, 0, 0, 1), octets(10, 0, 0, 4))
	v6 := list(octets(make([]byte, 16)...), octets(make([]byte, 16)...))
	ases := list(number(7), number(9))
	for _, n := range []api.Node{
		{},
		{Tag: -5},
		{Tag: 5 + 256},
		{Tag: 5, Body: []byte{0}},
		{Tag: 5, Kids: []api.Node{{}}},
		{Tag: 5, Kids: []api.Node{list(), list(), list()}},
		{Tag: 5, Kids: []api.Node{v4, v6, ases}},
		{Tag: 48, Body: []byte{0}, Kids: []api.Node{v4, v6, ases}},
		{Tag: 48, Body: []byte{10, 0, 0, 1}},
		{Tag: 49, Kids: []api.Node{v4, v6, ases}},
		{Tag: 16, Kids: []api.Node{v4, v6, ases}},
		{Tag: 48 + 256, Kids: []api.Node{v4, v6, ases}},
		list(),
		list(list(), list(), list()),
		list(list(api.Node{Tag: 5}), list(), list()),
		list(v4),
		list(v4, v6),
		list(v4, ases),
		list(v4, v6, ases, list()),
		list(v4, v6, ases, ases),
		list(v6, v4, ases),
		list(ases, v4, v6),
		list(v4, v6, v4),
		list(v4, v6, api.Node{Tag: 49, Kids: ases.Kids}),
		list(v4, v6, api.Node{Tag: 48, Body: []byte{1}, Kids: ases.Kids}),
		list(v4, v6, api.Node{Tag: 5}),
		list(v4, v6, api.Node{Tag: 48, Body: []byte{1}}),
		list(list(v4, v4), v6, ases),
		list(list(octets(10, 0, 0, 1)), v6, ases),
		list(list(octets(10, 0, 0, 1), octets(10, 0, 0, 4), octets(10, 0, 0, 6)), v6, ases),
		list(list(octets(10, 0, 0, 4), octets(10, 0, 0, 1)), v6, ases),
		list(list(octets(10, 0, 0, 1), octets(10, 0, 0)), v6, ases),
		list(list(octets(10, 0, 0), octets(10, 0, 0, 1)), v6, ases),
		list(list(octets(10, 0, 0, 1, 0), octets(10, 0, 0, 4)), v6, ases),
		list(list(octets(10, 0, 0, 1), octets(10, 0, 0, 4, 0)), v6, ases),
		list(list(octets(append([]byte{10}, make([]byte, 15)...)...), octets(append([]byte{10}, make([]byte, 15)...)...)), v6, ases),
		list(list(octets(), octets()), v6, ases),
		list(v4, list(octets(make([]byte, 17)...), octets(make([]byte, 17)...)), ases),
		list(v4, list(octets(make([]byte, 15)...), octets(make([]byte, 15)...)), ases),
		list(v4, list(octets(make([]byte, 4)...), octets(make([]byte, 4)...)), ases),
		list(v4, list(octets(make([]byte, 1000)...), octets(make([]byte, 1000)...)), ases),
		list(list(number(10, 0, 0, 1), number(10, 0, 0, 4)), v6, ases),
		list(list(api.Node{Tag: 3, Body: []byte{10, 0, 0, 1}}, octets(10, 0, 0, 4)), v6, ases),
		list(list(api.Node{Tag: 4, Body: []byte{10, 0, 0, 1}, Kids: []api.Node{{}}}, octets(10, 0, 0, 4)), v6, ases),
		list(list(octets(10, 0, 0, 1), octets(10, 0, 0, 9), octets(10, 0, 0, 10), octets(10, 0, 0, 20)), v6, ases),
		list(list(octets(10, 0, 0, 1), octets(10, 0, 0, 9), octets(9, 0, 0, 10), octets(9, 0, 0, 20)), v6, ases),
		list(v4, v6, list(number(7))),
		list(v4, v6, list(number(7), number(9), number(20))),
		list(v4, v6, list(number(9), number(7))),
		list(v4, v6, list(number(7), number(0, 9))),
		list(v4, v6, list(number(0, 7), number(9))),
		list(v4, v6, list(number(), number(9))),
		list(v4, v6, list(number(7), number())),
		list(v4, v6, list(number(7), number(129))),
		list(v4, v6, list(number(255), number(9))),
		list(v4, v6, list(number(7), number(1, 0, 0, 0, 9))), // 2^32 more than 9
		list(v4, v6, list(number(1, 0, 0, 0, 7), number(1, 0, 0, 0, 9))),
		list(v4, v6, list(number(7), number(1, 0, 0, 0, 0, 0, 0, 0, 9))),
		list(v4, v6, list(number(0), number(1, 0, 0, 0, 0, 0, 0, 0, 0))),
		list(v4, v6, list(octets(7), octets(9))),
		list(v4, v6, list(number(7), api.Node{Tag: 2, Body: []byte{9}, Kids: []api.Node{{}}})),
		list(v4, v6, list(number(1), number(3), number(4), number(9))),
		list(v4, v6, list(number(5), number(9), number(1), number(3))),
		wantNode(of(manySpans(false, 401))),
		wantNode(of(manySpans(true, 401))),
		wantNode(of(append(manySpans(false, 200), manySpans(true, 201)...))),
		wantNode(of(nil, manyRanges(401)...)),
	} {
		if got, e := res.Read(n); e != api.ErrForm || !isZero(got) {
			t.Error(n, got, e)
		}
		checkRead(t, n)
	}
}

func TestReadOfElementsOfWrongResources(t *testing.T) {
	for _, r := range wrong() {
		checkRead(t, wantNode(r)) // it may be that of other resources, which are valid
	}
}

// changed returns elements that differ from n itself in one thing, each in its own memory.
func changed(n api.Node) []api.Node {
	var l []api.Node
	change := func(f func(*api.Node)) {
		other := cloneNode(n)
		f(&other)
		l = append(l, other)
	}
	for _, tag := range []int{0, 2, 3, 4, 5, 16, 48, 49, 160, -48, n.Tag + 1, n.Tag + 256} {
		change(func(n *api.Node) { n.Tag = tag })
	}
	for _, b := range []byte{0, 1, 127, 128, 255} {
		change(func(n *api.Node) { n.Body = append(n.Body, b) })
		change(func(n *api.Node) { n.Body = append([]byte{b}, n.Body...) })
	}
	for i := range n.Body {
		change(func(n *api.Node) { n.Body = slices.Delete(n.Body, i, i+1) })
		for _, more := range []byte{1, 2, 10, 127, 128, 129, 254, 255} {
			change(func(n *api.Node) { n.Body[i] += more })
		}
	}
	for _, kid := range []api.Node{{}, {Tag: 5}, list(), octets(10, 0, 0, 50), number(50)} {
		change(func(n *api.Node) { n.Kids = append(n.Kids, kid) })
		change(func(n *api.Node) { n.Kids = append([]api.Node{kid}, n.Kids...) })
		change(func(n *api.Node) { n.Kids = append(n.Kids, kid, kid) })
	}
	for i := range n.Kids {
		change(func(n *api.Node) { n.Kids = slices.Delete(n.Kids, i, i+1) })
		change(func(n *api.Node) { n.Kids = append(n.Kids, cloneNode(n.Kids[i])) })
		change(func(n *api.Node) { n.Kids[i], n.Kids[0] = n.Kids[0], n.Kids[i] })
		change(func(n *api.Node) { n.Kids = slices.Delete(n.Kids, i, min(i+2, len(n.Kids))) })
		change(func(n *api.Node) {
			n.Kids = slices.Insert(n.Kids, i, cloneNode(n.Kids[i]))
		})
	}
	return l
}

// changedWithin returns elements that differ from n in one thing, in n itself or in an element within it.
func changedWithin(n api.Node) []api.Node {
	l := changed(n)
	for i, kid := range n.Kids {
		for _, other := range changedWithin(kid) {
			whole := cloneNode(n)
			whole.Kids[i] = other
			l = append(l, whole)
		}
	}
	return l
}

func TestReadOfChangedElements(t *testing.T) {
	for _, r := range append(randomRes(40), valid()...) {
		if len(r.Spans) > 9 || len(r.Ases) > 9 {
			continue
		}
		for _, n := range changedWithin(wantNode(r)) {
			checkRead(t, n)
		}
	}
}

func TestReadOfTwiceChangedElements(t *testing.T) {
	for _, r := range []api.Res{inherit(), of(nil, r(7, 300)), of(spans(s("10.0.0.1", "10.0.0.4")))} {
		for _, once := range changedWithin(wantNode(r)) {
			for _, twice := range changedWithin(once) {
				checkRead(t, twice)
			}
		}
	}
}

func TestReadOfNumbers(t *testing.T) {
	ends := []byte{0, 1, 127, 128, 255}
	bodies := [][]byte{nil}
	for i := 0; i < len(bodies); i++ {
		n := list(list(), list(), list(number(bodies[i]...), number(bodies[i]...)))
		checkRead(t, n)
		for _, b := range ends {
			if len(bodies[i]) < 6 {
				bodies = append(bodies, append(slices.Clone(bodies[i]), b))
			}
		}
	}
}

// P0: an element may contain itself.
func TestReadOfEndlessElements(t *testing.T) {
	for _, tag := range []int{5, 48} {
		n := api.Node{Tag: tag, Kids: make([]api.Node, 3)}
		n.Kids[0], n.Kids[1], n.Kids[2] = n, n, n
		if got, e := res.Read(n); e != api.ErrForm || !isZero(got) {
			t.Error(got, e)
		}
		pair := api.Node{Tag: 48, Kids: make([]api.Node, 2)}
		pair.Kids[0], pair.Kids[1] = pair, pair
		if got, e := res.Read(list(pair, pair, pair)); e != api.ErrForm || !isZero(got) {
			t.Error(got, e)
		}
	}
	deep := api.Node{Tag: 5}
	for range 100000 {
		deep = list(deep, deep, deep)
	}
	if got, e := res.Read(deep); e != api.ErrForm || !isZero(got) {
		t.Error(got, e)
	}
}

// P13.3

func TestResolve(t *testing.T) {
	eight, nine := of(spans(s("10.0.0.0", "10.255.255.255"))), of(spans(s("10.0.0.0", "10.127.255.255")))
	gap := of(spans(s("10.0.0.0", "10.0.0.9"), s("10.0.0.11", "10.0.0.20"), s("2001:db8::", "2001:db8::9")), r(1, 9), r(11, 20))
	for _, c := range []struct {
		r, issuer, want api.Res
		e               api.Errno
	}{
		{nine, eight, nine, api.OK},
		{eight, nine, api.Res{}, api.ErrOver},
		{eight, eight, eight, api.OK},
		{inherit(), eight, eight, api.OK},
		{inherit(), gap, gap, api.OK},
		{inherit(), all(), all(), api.OK},
		{all(), all(), all(), api.OK},
		{gap, all(), gap, api.OK},
		{all(), gap, api.Res{}, api.ErrOver},
		{of(nil, r(7, 7)), all(), of(nil, r(7, 7)), api.OK},
		{of(nil, r(7, 7)), gap, of(nil, r(7, 7)), api.OK},
		{of(nil, r(10, 10)), gap, api.Res{}, api.ErrOver},
		{of(nil, r(9, 11)), gap, api.Res{}, api.ErrOver},
		{of(nil, r(7, 7)), eight, api.Res{}, api.ErrOver},
		{eight, of(nil, r(7, 7)), api.Res{}, api.ErrOver},
		{of(spans(s("10.0.0.9", "10.0.0.9")), r(9, 9)), gap, of(spans(s("10.0.0.9", "10.0.0.9")), r(9, 9)), api.OK},
		{of(spans(s("10.0.0.9", "10.0.0.9")), r(10, 10)), gap, api.Res{}, api.ErrOver},
		{of(spans(s("10.0.0.10", "10.0.0.10")), r(9, 9)), gap, api.Res{}, api.ErrOver},
		{of(spans(s("10.0.0.9", "10.0.0.11"))), gap, api.Res{}, api.ErrOver},
		{of(spans(s("10.0.0.9", "10.0.0.9"), s("2001:db8::9", "2001:db8::9"))), gap, of(spans(s("10.0.0.9", "10.0.0.9"), s("2001:db8::9", "2001:db8::9"))), api.OK},
		{of(spans(s("10.0.0.9", "10.0.0.9"), s("2001:db8::9", "2001:db8::a"))), gap, api.Res{}, api.ErrOver},
		{of(spans(s("a00::", "a00::"))), eight, api.Res{}, api.ErrOver}, // the bytes of 10.0.0.0, of the other family
		{of(spans(s("10.0.0.0", "10.0.0.0"))), of(spans(s("::", "ffff:ffff:ffff:ffff:ffff:ffff:ffff:ffff"))), api.Res{}, api.ErrOver},
		{eight, inherit(), api.Res{}, api.ErrArg},
		{inherit(), inherit(), api.Res{}, api.ErrArg},
		{inherit(), api.Res{}, api.Res{}, api.ErrArg},
		{api.Res{}, all(), api.Res{}, api.ErrArg},
	} {
		if got, e := res.Resolve(c.r, c.issuer); e != c.e || !sameRes(got, c.want) {
			t.Error(c.r, c.issuer, got, e)
		}
	}
}

func TestResolveOfWrongResources(t *testing.T) {
	small := of(spans(s("10.0.0.3", "10.0.0.3")), r(2, 2))
	for _, w := range wrong() {
		for _, r := range []api.Res{all(), small, inherit(), w} {
			if got, e := res.Resolve(w, r); e != api.ErrArg || !isZero(got) {
				t.Fatal(w, r, got, e)
			}
			if got, e := res.Resolve(r, w); e != api.ErrArg || !isZero(got) {
				t.Fatal(r, w, got, e)
			}
		}
	}
}

// few is the number of addresses of each family, and of AS numbers, in a set: bits 0 to few-1 are IPv4 addresses, the next ones IPv6 addresses, and the last ones AS numbers.
const few = 3

func fewAddress(v6 bool, i int) [16]byte {
	if v6 {
		return [16]byte{32, 1, 13, 184, 14: 1, 15: byte(i)}
	}
	return [16]byte{10, 0, 1, byte(i)}
}

// set returns the resources of a set, with runs of bits that are 1 as ranges.
func set(bits int) api.Res {
	var spans []api.Span
	var ranges []api.Range
	for i := range few {
		for family, v6 := range []bool{false, true} {
			if bits>>(family*few+i)&1 == 1 {
				spans = append(spans, api.Span{V6: v6, Lo: fewAddress(v6, i), Hi: fewAddress(v6, i)})
			}
		}
		if bits>>(2*few+i)&1 == 1 {
			ranges = append(ranges, r(uint32(i), uint32(i)))
		}
	}
	return of(span.Join(spans), asn.Join(ranges...)...)
}

func TestResolveOfSets(t *testing.T) {
	for a := 1; a < 1<<(3*few); a++ {
		own := set(a)
		for b := 1; b < 1<<(3*few); b++ {
			issuer := set(b)
			got, e := res.Resolve(own, issuer)
			if a&^b == 0 && (e != api.OK || !sameRes(got, own)) || a&^b != 0 && (e != api.ErrOver || !isZero(got)) {
				t.Fatal(own, issuer, got, e)
			}
		}
	}
}

// P13.4

func TestHas(t *testing.T) {
	one := of(spans(s("10.0.0.0", "10.0.0.9"), s("10.0.0.11", "10.0.0.20"), s("192.0.2.0", "192.0.3.255"), s("2001:db8::", "2001:db8::ffff")), r(1, 9))
	for text, want := range map[string]bool{
		"10.0.0.0/29": true, "10.0.0.0/28": false, "10.0.0.8/31": true, "10.0.0.9/32": true, "10.0.0.10/32": false, "10.0.0.10/31": false,
		"10.0.0.11/32": true, "10.0.0.12/30": true, "10.0.0.16/30": true, "10.0.0.20/32": true, "10.0.0.20/31": false, "10.0.0.21/32": false,
		"9.255.255.255/32": false, "10.0.0.0/8": false, "0.0.0.0/0": false, "0.0.0.0/32": false,
		"192.0.2.0/23": true, "192.0.2.0/24": true, "192.0.3.0/24": true, "192.0.0.0/22": false, "192.0.3.255/32": true,
		"2001:db8::/112": true, "2001:db8::/111": false, "2001:db8::ffff/128": true, "2001:db8::1:0/128": false, "::/0": false, "a00::/32": false, "a00::/128": false,
	} {
		if res.Has(one, p(text)) != want {
			t.Error(text, want)
		}
	}
	for _, text := range []string{"0.0.0.0/0", "::/0", "255.255.255.255/32", "ffff:ffff:ffff:ffff:ffff:ffff:ffff:ffff/128", "10.0.0.0/8"} {
		if !res.Has(all(), p(text)) || res.Has(of(nil, r(0, most)), p(text)) || res.Has(inherit(), p(text)) || res.Has(api.Res{}, p(text)) {
			t.Error(text)
		}
	}
}

func TestHasOfWrongPrefixes(t *testing.T) {
	for _, prefix := range []api.Prefix{
		{Len: -1},
		{Len: 33},
		{Len: 128},
		{Len: math.MinInt},
		{Len: math.MaxInt},
		{V6: true, Len: -1},
		{V6: true, Len: 129},
		{V6: true, Len: math.MaxInt},
		{Addr: [16]byte{10, 0, 0, 1}, Len: 8},
		{Addr: [16]byte{128}},
		{Addr: [16]byte{10, 0, 0, 1, 1}, Len: 32},
		{Addr: [16]byte{15: 1}, Len: 32},
		{V6: true, Addr: [16]byte{15: 1}, Len: 127},
		{V6: true, Addr: [16]byte{128}},
	} {
		if addr.Right(prefix) || res.Has(all(), prefix) {
			t.Error(prefix)
		}
	}
}

// Nothing but Spans decides, also where the resources are not valid.
func TestHasOfWrongResources(t *testing.T) {
	for _, l := range [][]api.Span{
		{s("10.0.0.2", "10.0.0.3"), s("10.0.0.0", "10.0.0.1")},
		{s("10.0.0.0", "10.0.0.2"), s("10.0.0.1", "10.0.0.3"), s("10.0.0.0", "10.0.0.9")},
		{s("::", "::1"), s("10.0.0.0", "10.0.0.1"), s("10.0.0.3", "10.0.0.2"), s("10.0.0.2", "10.0.0.4")},
	} {
		for _, one := range []api.Res{{Spans: l}, {Spans: l, Inherit: true}, {Spans: l, Ases: []api.Range{r(1, 0)}}} {
			if !res.Has(one, p("10.0.0.0/30")) || res.Has(one, p("10.0.0.0/8")) || res.Has(one, p("10.0.0.16/32")) {
				t.Error(one)
			}
		}
	}
	if !res.Has(of(manySpans(false, 2000)), p("10.7.207.0/32")) || res.Has(of(manySpans(false, 2000)), p("10.7.208.0/32")) {
		t.Error("many spans")
	}
	if res.Has(of(spans(s("10.0.0.9", "10.0.0.0"))), p("10.0.0.0/32")) {
		t.Error("a span that is not valid has no addresses")
	}
}

// wantHas compares the ends of a prefix with each span, as numbers; spans of valid resources are apart, so one of them must have both.
func wantHas(r api.Res, prefix api.Prefix) bool {
	size := 32
	if prefix.V6 {
		size = 128
	}
	lo := numberOf(prefix.V6, prefix.Addr)
	hi := new(big.Int).Lsh(big.NewInt(1), uint(size-prefix.Len))
	hi.Add(hi, lo).Sub(hi, big.NewInt(1))
	return slices.ContainsFunc(r.Spans, func(s api.Span) bool {
		return s.V6 == prefix.V6 && numberOf(s.V6, s.Lo).Cmp(lo) <= 0 && numberOf(s.V6, s.Hi).Cmp(hi) >= 0
	})
}

func TestHasOfPrefixesInRandomResources(t *testing.T) {
	yes, no := 0, 0
	for _, one := range randomRes(500) {
		for _, s := range one.Spans {
			for _, address := range [][16]byte{s.Lo, s.Hi} {
				for length := range 129 {
					prefix := addr.Cut(api.Prefix{V6: s.V6, Addr: address, Len: length})
					want := wantHas(one, prefix)
					if want {
						yes++
					} else {
						no++
					}
					if res.Has(one, prefix) != want {
						t.Fatal(one, prefix, want)
					}
				}
			}
		}
	}
	if yes < 1000 || no < 1000 {
		t.Error("too few of one kind:", yes, no)
	}
}

// P13.5

func TestNodeAndReadAreInverse(t *testing.T) {
	for _, one := range append(valid(), randomRes(3000)...) {
		n, e := res.Node(one)
		if e != api.OK {
			t.Fatal(one, e)
		}
		read, e := res.Read(n)
		if e != api.OK || !sameRes(read, one) {
			t.Fatal(one, read, e)
		}
		again, e := res.Node(read)
		if e != api.OK || !sameNode(again, n) {
			t.Fatal(one, n, again, e)
		}
	}
}

// Whatever is read has the element from which it was read.
func TestWhatIsReadHasItsElement(t *testing.T) {
	parts := []api.Node{
		list(), list(octets(10, 0, 0, 1), octets(10, 0, 0, 4)), list(octets(make([]byte, 16)...), octets(make([]byte, 16)...)),
		list(number(1), number(2)), list(number(0), number(0, 255, 255, 255, 255)), {Tag: 5}, octets(1, 2, 3, 4), number(1),
	}
	read := 0
	for _, a := range parts {
		for _, b := range parts {
			for _, c := range parts {
				n := list(a, b, c)
				checkRead(t, n)
				if one, e := res.Read(n); e == api.OK {
					read++
					if again, e := res.Node(one); e != api.OK || !sameNode(again, n) {
						t.Fatal(n, one, again, e)
					}
				}
			}
		}
	}
	if read != 2*2*3-1 {
		t.Error("read:", read)
	}
}

// within looks for each prefix, and each range, of a in a single one of b: normalized lists have no others.
func within(a, b api.Res) bool {
	for _, s := range a.Spans {
		for prefix := range span.Prefixes(s) {
			if !wantHas(b, prefix) {
				return false
			}
		}
	}
	for _, a := range a.Ases {
		if !slices.ContainsFunc(b.Ases, func(b api.Range) bool { return b.Lo <= a.Lo && a.Hi <= b.Hi }) {
			return false
		}
	}
	return true
}

func TestResolvedResourcesAreTheIssuers(t *testing.T) {
	pool := append(randomRes(300), inherit(), all())
	for _, issuer := range pool {
		for _, one := range pool {
			got, e := res.Resolve(one, issuer)
			switch {
			case issuer.Inherit:
				if e != api.ErrArg {
					t.Fatal(one, issuer, e)
				}
			case (e == api.OK) != within(one, issuer):
				t.Fatal(one, issuer, e)
			case e == api.OK && (!within(got, issuer) || !res.Right(got) || got.Inherit):
				t.Fatal(one, issuer, got)
			}
		}
	}
}

func TestChainsOfIssuers(t *testing.T) {
	var pool []api.Res
	for bits := 1; bits < 1<<(3*few); bits += 7 {
		pool = append(pool, set(bits))
	}
	pool = append(pool, inherit())
	for _, top := range pool {
		for _, middle := range pool {
			second, e := res.Resolve(middle, top)
			if e != api.OK {
				continue
			}
			for _, low := range pool {
				third, e := res.Resolve(low, second)
				if e != api.OK {
					continue
				}
				if !within(third, top) {
					t.Fatal(top, middle, low, third)
				}
				if again, e := res.Resolve(third, top); e != api.OK || !sameRes(again, third) {
					t.Fatal(top, middle, low, again, e)
				}
			}
		}
	}
}

// R3 and R4

// withRoom returns a copy whose lists have memory behind their last elements.
func withRoom(r api.Res) api.Res {
	r.Spans, r.Ases = slices.Grow(slices.Clone(r.Spans), 4), slices.Grow(slices.Clone(r.Ases), 4)
	return r
}

// wipe changes all of the lists' memory, also what is behind their last elements.
func wipe(r api.Res) {
	spans, ases := r.Spans[:cap(r.Spans)], r.Ases[:cap(r.Ases)]
	for i := range spans {
		spans[i] = s("1.2.3.4", "5.6.7.8")
	}
	for i := range ases {
		ases[i] = api.Range{Lo: 123, Hi: 456}
	}
}

func wipeNode(n api.Node) {
	body := n.Body[:cap(n.Body)]
	for i := range body {
		body[i] ^= 85
	}
	for _, kid := range n.Kids {
		wipeNode(kid)
	}
	kids := n.Kids[:cap(n.Kids)]
	for i := range kids {
		kids[i] = api.Node{Tag: 77}
	}
}

func checkSame(t *testing.T, what string, got, want api.Res) {
	t.Helper()
	if !sameRes(got, want) {
		t.Fatal(what, got, want)
	}
}

func TestResolveKeepsItsArguments(t *testing.T) {
	for _, issuer := range append(randomRes(100), all()) {
		for _, own := range []api.Res{issuer, inherit()} {
			a, b := withRoom(own), withRoom(issuer)
			got, e := res.Resolve(a, b)
			other, _ := res.Resolve(a, b)
			if e != api.OK {
				t.Fatal(a, b, e)
			}
			wipe(got)
			checkSame(t, "the resources", a, own)
			checkSame(t, "the issuer", b, issuer)
			checkSame(t, "another result", other, issuer)
			behind := append(b.Spans, api.Span{})[:len(b.Spans)+1][len(b.Spans)]
			if behind != (api.Span{}) {
				t.Fatal("memory behind the issuer's list was changed")
			}
			wipe(a)
			wipe(b)
			checkSame(t, "a result whose arguments were changed", other, issuer)
		}
	}
}

func TestNodeAndReadKeepTheirArguments(t *testing.T) {
	for _, one := range append(randomRes(200), all(), inherit()) {
		a := withRoom(one)
		n, _ := res.Node(a)
		kept := cloneNode(n)
		read, _ := res.Read(n)
		if !sameNode(n, kept) {
			t.Fatal("Read changed its argument", n, kept)
		}
		wipe(read)
		if !sameNode(n, kept) {
			t.Fatal("what was read shares memory with the element", n, kept)
		}
		read, _ = res.Read(n)
		again, _ := res.Node(a)
		wipeNode(n)
		checkSame(t, "what was read", read, one)
		checkSame(t, "the argument of Node", a, one)
		if !sameNode(again, kept) {
			t.Fatal("two elements share memory", again, kept)
		}
		wipe(a)
		if !sameNode(again, kept) {
			t.Fatal("an element shares memory with the resources", again, kept)
		}
	}
}

func TestRightAndHasKeepTheirArguments(t *testing.T) {
	for _, one := range append(wrong(), valid()...) {
		if len(one.Spans) > 1000 || len(one.Ases) > 1000 {
			continue
		}
		a := withRoom(one)
		right, has := res.Right(a), res.Has(a, p("10.0.0.0/31"))
		res.Node(a)
		res.Resolve(a, a)
		checkSame(t, "the resources", a, one)
		if res.Right(a) != right || res.Has(a, p("10.0.0.0/31")) != has {
			t.Fatal("another answer", one)
		}
	}
}

// The elements of the AS numbers are those of scalar.
func TestNumbersAreThoseOfScalar(t *testing.T) {
	for shift := range 32 {
		for _, n := range []uint32{1<<shift - 1, 1 << shift, 1<<shift + 1} {
			got, e := res.Node(of(nil, r(n, n)))
			want := scalar.Int(uint64(n))
			if e != api.OK || !sameNode(got, list(list(), list(), list(want, want))) {
				t.Fatal(n, got, e)
			}
		}
	}
}
