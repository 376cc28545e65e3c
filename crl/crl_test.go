package crl_test

import (
	"bytes"
	"math"
	"math/rand"
	"slices"
	"strings"
	"testing"

	"lanyard/api"
	"lanyard/crl"
	"lanyard/scalar"
	"lanyard/spki"
	"lanyard/tlv"
)

// ordinary is a list with some serial numbers.
func ordinary() api.Crl {
	return api.Crl{Issuer: "issuer", Number: 300, This: 1000000000, Next: 1000086400, Serials: []uint32{0, 5, 127, 128, 70000, 1 << 31}}
}

// none is a list without serial numbers.
func none() api.Crl {
	return api.Crl{Issuer: "issuer", Number: 0, This: longTime - 1, Next: longTime}
}

// change is one of a list.
type change func(*api.Crl)

// rightChanges leave a list valid.
func rightChanges() []change {
	l := []change{
		func(c *api.Crl) { c.This = c.Next },
		func(c *api.Crl) { c.Next = c.This },
		func(c *api.Crl) { c.This, c.Next = firstTime, lastTime },
		func(c *api.Crl) { c.This, c.Next = firstTime, firstTime },
		func(c *api.Crl) { c.This, c.Next = lastTime, lastTime },
		func(c *api.Crl) { c.This, c.Next = longTime-1, longTime },
		func(c *api.Crl) { c.This, c.Next = -1, 0 },
	}
	for _, n := range []uint32{0, 1, 127, 128, 255, 256, 32767, 32768, 65535, 1 << 23, 1 << 31, math.MaxUint32} {
		l = append(l, func(c *api.Crl) { c.Number = n }, func(c *api.Crl) { c.Serials = []uint32{n} })
	}
	for _, s := range []string{" ", "~", "a", "An issuer", "issuer", strings.Repeat("x", 199), strings.Repeat("~", 200)} {
		l = append(l, func(c *api.Crl) { c.Issuer = s })
	}
	for _, serials := range [][]uint32{nil, {}, {0, 1}, {math.MaxUint32 - 1, math.MaxUint32}, {0, math.MaxUint32}, {1<<31 - 1, 1 << 31}, {5, 6, 7, 8, 9, 100}} {
		l = append(l, func(c *api.Crl) { c.Serials = serials })
	}
	for _, size := range []int{100, 399, 400} {
		l = append(l, func(c *api.Crl) { c.Serials = many(size, false) }, func(c *api.Crl) { c.Serials = many(size, true) })
	}
	return l
}

// wrongChanges leave no list valid.
func wrongChanges() []change {
	l := []change{
		func(c *api.Crl) { *c = api.Crl{} },
		func(c *api.Crl) { c.Issuer = "" },
		func(c *api.Crl) { c.This = c.Next + 1 },
		func(c *api.Crl) { c.Next = c.This - 1 },
		func(c *api.Crl) { c.This, c.Next = lastTime, firstTime },
	}
	for _, s := range []int64{firstTime - 1, lastTime + 1, math.MinInt64, math.MaxInt64, math.MinInt64 + 1, -1 << 40, 1 << 40} {
		l = append(l, func(c *api.Crl) { c.This = s }, func(c *api.Crl) { c.Next = s }, func(c *api.Crl) { c.This, c.Next = s, s })
	}
	for _, s := range []string{"\x00", "\x1f", "\x7f", "\x80", "\xff", "é", "a\n", "\na", "a\x00b", strings.Repeat("x", 201), strings.Repeat("x", 65536)} {
		l = append(l, func(c *api.Crl) { c.Issuer = s })
	}
	for _, serials := range wrongSerials() {
		l = append(l, func(c *api.Crl) { c.Serials = serials })
	}
	return l
}

func wrongSerials() [][]uint32 {
	l := [][]uint32{
		{5, 4}, {5, 5}, {0, 0}, {1, 0}, {math.MaxUint32, 0}, {math.MaxUint32, math.MaxUint32}, {1 << 31, 1<<31 - 1}, {128, 127}, {256, 255},
		{1, 2, 2}, {2, 2, 3}, {1, 3, 2}, {3, 1, 2}, {1, 2, 3, 0}, {4, 5, 6, 6}, {9, 8, 7, 6, 5},
	}
	for _, size := range []int{401, 402, 500, 2000, 70000} {
		l = append(l, many(size, false), many(size, true))
	}
	for _, i := range []int{0, 1, 200, 398} {
		equal, down := many(400, true), many(400, true)
		equal[i] = equal[i+1]
		down[i], down[i+1] = down[i+1], down[i]
		l = append(l, equal, down)
	}
	return append(l, make([]uint32, 400), make([]uint32, 401))
}

// valid are lists with ordinary parts, and with each edge of them.
func valid() []api.Crl {
	l := []api.Crl{ordinary(), none(), knownCrls()[0].crl, knownCrls()[1].crl}
	for _, f := range rightChanges() {
		l = append(l, but(ordinary(), f), but(none(), f))
	}
	return l
}

// wrong are lists that are not valid, most of them for one reason.
func wrong() []api.Crl {
	var l []api.Crl
	for _, f := range wrongChanges() {
		l = append(l, but(ordinary(), f), but(none(), f))
	}
	return l
}

// randomCrls are valid ones that differ in all their parts.
func randomCrls(seed int64, size int) []api.Crl {
	r := rand.New(rand.NewSource(seed))
	var l []api.Crl
	for range size {
		issuer := make([]byte, 1+r.Intn(40))
		for i := range issuer {
			issuer[i] = byte(' ' + r.Intn(95))
		}
		this := firstTime + r.Int63n(lastTime-firstTime)
		c := api.Crl{Issuer: string(issuer), Number: r.Uint32() >> r.Intn(32), This: this, Next: this + r.Int63n(lastTime-this+1)}
		for range r.Intn(20) {
			c.Serials = append(c.Serials, r.Uint32()>>r.Intn(32))
		}
		slices.Sort(c.Serials)
		c.Serials = slices.Compact(c.Serials)
		l = append(l, c)
	}
	return l
}

// P16.1

func TestRight(t *testing.T) {
	for _, c := range slices.Concat(valid(), randomCrls(1, 500)) {
		if !crl.Right(c) || !wantRight(c) {
			t.Errorf("not valid: %+v", c)
		}
	}
}

func TestRightNodeAndMakeOfWrongLists(t *testing.T) {
	for i, c := range wrong() {
		if wantRight(c) || crl.Right(c) {
			t.Error("valid:", i)
		}
		if n, e := crl.Node(c); e != api.ErrArg || !sameNode(n, api.Node{}) {
			t.Error(i, n, e)
		}
		for _, sig := range [][]byte{nil, {1, 2, 3}, make([]byte, 30000)} {
			if b, e := crl.Make(c, sig); e != api.ErrArg || len(b) != 0 {
				t.Error(i, b, e)
			}
		}
	}
}

// Each pair of changes: no part of a list mends another one.
func TestRightOfTwoChanges(t *testing.T) {
	all := slices.Concat(rightChanges(), wrongChanges())
	right := 0
	for i, f := range all {
		for j, g := range all {
			c := ordinary()
			f(&c)
			g(&c)
			if len(c.Serials) > 1000 || len(c.Issuer) > 1000 {
				continue
			}
			want := wantRight(c)
			if want {
				right++
			}
			if crl.Right(c) != want {
				t.Fatal(i, j, want)
			}
		}
	}
	if right < 1000 {
		t.Error("too few are valid:", right)
	}
}

// Every byte of a text, alone and within another text.
func TestRightOfEveryByte(t *testing.T) {
	for value := range 256 {
		want := value >= 32 && value <= 126
		one := string([]byte{byte(value)})
		for _, s := range []string{one, "a" + one, one + "a"} {
			if crl.Right(but(ordinary(), func(c *api.Crl) { c.Issuer = s })) != want {
				t.Error(value)
			}
		}
	}
}

func TestRightOfTimes(t *testing.T) {
	points := []int64{math.MinInt64, firstTime - 1, firstTime, firstTime + 1, -1, 0, 1, longTime - 1, longTime, lastTime - 1, lastTime, lastTime + 1, math.MaxInt64}
	for _, this := range points {
		for _, next := range points {
			want := this >= firstTime && next <= lastTime && this <= next
			if crl.Right(but(ordinary(), func(c *api.Crl) { c.This, c.Next = this, next })) != want {
				t.Error(this, next)
			}
		}
	}
}

// All short lists of serial numbers, among them the least and the greatest ones.
func TestRightOfSerials(t *testing.T) {
	numbers := []uint32{0, 1, 127, 128, 1<<31 - 1, 1 << 31, math.MaxUint32}
	right := 0
	var check func(l []uint32)
	check = func(l []uint32) {
		want := areSerials(l)
		if want {
			right++
		}
		if crl.Right(but(ordinary(), func(c *api.Crl) { c.Serials = l })) != want {
			t.Error(l, want)
		}
		if len(l) == 4 {
			return
		}
		for _, n := range numbers {
			check(append(slices.Clone(l), n))
		}
	}
	check(nil)
	if want := 1 + 7 + 21 + 35 + 35; right != want { // the sets of up to four of the seven numbers
		t.Error(right, want)
	}
}

func TestRightOfTheMostSerials(t *testing.T) {
	for size := range 450 {
		for _, great := range []bool{false, true} {
			if crl.Right(but(ordinary(), func(c *api.Crl) { c.Serials = many(size, great) })) != (size <= 400) {
				t.Error(size, great)
			}
		}
	}
}

func TestRightOfSerialsAtEveryPlace(t *testing.T) {
	for i := range 399 {
		l := many(400, true)
		l[i] = l[i+1]
		if crl.Right(but(ordinary(), func(c *api.Crl) { c.Serials = l })) {
			t.Error("equal:", i)
		}
		l = many(400, true)
		l[i], l[i+1] = l[i+1], l[i]
		if crl.Right(but(ordinary(), func(c *api.Crl) { c.Serials = l })) {
			t.Error("decreasing:", i)
		}
	}
}

func TestNodeInBytes(t *testing.T) {
	c := api.Crl{Issuer: "up", Number: 128, This: 951868800, Next: 2524608000, Serials: []uint32{0, 127, 128, 255, 256, math.MaxUint32}}
	n, e := crl.Node(c)
	b, written := tlv.Write(n)
	want := slices.Concat(
		[]byte{48, 69},
		[]byte{22, 2, 'u', 'p'},
		[]byte{2, 2, 0, 128},
		[]byte{48, 32, 23, 13}, []byte("000301000000Z"), []byte{24, 15}, []byte("20500101000000Z"),
		[]byte{48, 25, 2, 1, 0, 2, 1, 127, 2, 2, 0, 128, 2, 2, 0, 255, 2, 2, 1, 0, 2, 5, 0, 255, 255, 255, 255},
	)
	if e != api.OK || written != api.OK || !bytes.Equal(b, want) {
		t.Error(b, e, written)
	}
	c.Number, c.Next, c.Serials = 0, c.This, nil
	n, e = crl.Node(c)
	b, written = tlv.Write(n)
	want = slices.Concat(
		[]byte{48, 41},
		[]byte{22, 2, 'u', 'p'},
		[]byte{2, 1, 0},
		[]byte{48, 30, 23, 13}, []byte("000301000000Z"), []byte{23, 13}, []byte("000301000000Z"),
		[]byte{48, 0},
	)
	if e != api.OK || written != api.OK || !bytes.Equal(b, want) {
		t.Error(b, e, written)
	}
}

func TestNode(t *testing.T) {
	for _, c := range slices.Concat(valid(), randomCrls(2, 500)) {
		if n, e := crl.Node(c); e != api.OK || !sameNode(n, wantNode(c)) {
			t.Errorf("%+v %v %d", c, n, e)
		}
	}
}

// The parts of the element are those of the lower layers.
func TestNodeHasThePartsOfTheLowerLayers(t *testing.T) {
	must := func(n api.Node, e api.Errno) api.Node {
		if e != api.OK {
			t.Fatal(e)
		}
		return n
	}
	for _, c := range valid() {
		serials := list()
		for _, serial := range c.Serials {
			serials.Kids = append(serials.Kids, scalar.Int(uint64(serial)))
		}
		want := list(
			must(scalar.Text(c.Issuer)),
			scalar.Int(uint64(c.Number)),
			list(must(scalar.Time(c.This)), must(scalar.Time(c.Next))),
			serials,
		)
		if n := must(crl.Node(c)); !sameNode(n, want) {
			t.Errorf("%+v %v", c, n)
		}
	}
}

func TestMake(t *testing.T) {
	for _, c := range slices.Concat(valid(), randomCrls(3, 200)) {
		for _, sig := range [][]byte{nil, {}, {0}, {128, 0, 7}, bytes.Repeat([]byte{255}, 512)} {
			want := sealed(wantNode(c), sig)
			if b, e := crl.Make(c, sig); e != api.OK || !bytes.Equal(b, want) {
				t.Fatalf("%+v %v %d", c, b, e)
			}
			n, _ := crl.Node(c)
			if b, e := spki.Seal(n, sig); e != api.OK || !bytes.Equal(b, want) {
				t.Fatalf("%+v %v %d", c, b, e)
			}
		}
	}
}

func TestMakeOfKnownLists(t *testing.T) {
	for i, known := range knownCrls() {
		if b, e := crl.Make(known.crl, bytesOf(known.sig)); e != api.OK || !bytes.Equal(b, known.whole()) {
			t.Error(i, b, e)
		}
	}
}

// A list of 20000 bytes, and one with one byte more.
func TestMakeOfTheMostBytes(t *testing.T) {
	for _, c := range []api.Crl{ordinary(), none(), but(ordinary(), func(c *api.Crl) { c.Issuer, c.Serials = strings.Repeat("x", 200), many(400, true) })} {
		sig := bytes.Repeat([]byte{5}, 20000-len(sealed(wantNode(c), make([]byte, 300)))+300)
		for len(sealed(wantNode(c), sig)) > 20000 {
			sig = sig[1:]
		}
		b, e := crl.Make(c, sig)
		if e != api.OK || len(b) != 20000 || !bytes.Equal(b, sealed(wantNode(c), sig)) {
			t.Error(len(b), e)
		}
		if got, e := crl.Read(b); e != api.OK || !sameCrl(got, c) {
			t.Error(got, e)
		}
		if b, e := crl.Make(c, append(sig, 5)); e != api.ErrLarge || len(b) != 0 {
			t.Error(len(b), e)
		}
		if b, e := crl.Make(c, make([]byte, 70000)); e != api.ErrLarge || len(b) != 0 {
			t.Error(len(b), e)
		}
	}
}

// P16.2

func TestRead(t *testing.T) {
	for _, c := range slices.Concat(valid(), randomCrls(4, 500)) {
		for _, sig := range [][]byte{nil, {0}, bytes.Repeat([]byte{255}, 64)} {
			if got, e := crl.Read(sealed(wantNode(c), sig)); e != api.OK || !sameCrl(got, c) {
				t.Fatalf("%+v %+v %d", c, got, e)
			}
		}
	}
}

func TestReadOfKnownLists(t *testing.T) {
	for i, known := range knownCrls() {
		if got, e := crl.Read(known.whole()); e != api.OK || !sameCrl(got, known.crl) {
			t.Errorf("%d %+v %d", i, got, e)
		}
	}
}

// checkRead holds Read against the promise: the error of spki.Open, or what each part of the opened element says.
func checkRead(t *testing.T, b []byte) bool {
	t.Helper()
	n, _, sig, want := spki.Open(b)
	var wanted api.Crl
	if want == api.OK {
		c, ok := wantCrl(n)
		if ok {
			wanted = c
		} else {
			want = api.ErrForm
		}
	}
	got, e := crl.Read(b)
	if e != want || !sameCrl(got, wanted) {
		t.Fatalf("%v %+v %d, want %+v %d", b, got, e, wanted, want)
	}
	if e != api.OK {
		return false
	}
	if again, e := crl.Make(got, sig); e != api.OK || !bytes.Equal(again, b) {
		t.Fatalf("what is read has other bytes: %v %v %d", b, again, e)
	}
	return true
}

func nest(deep int) api.Node {
	n := list()
	for range deep - 1 {
		n = list(n)
	}
	return n
}

func TestReadReturnsTheErrorsOfOpen(t *testing.T) {
	right := sealed(wantNode(ordinary()), []byte{1, 2, 3})
	for i, c := range []struct {
		b    []byte
		want api.Errno
	}{
		{nil, api.ErrShort},
		{[]byte{}, api.ErrShort},
		{[]byte{48}, api.ErrShort},
		{right[:len(right)-1], api.ErrShort},
		{right[:9], api.ErrShort},
		{right[1:], api.ErrForm},
		{append(slices.Clone(right), 0), api.ErrForm},
		{[]byte{31, 0}, api.ErrForm},
		{[]byte{48, 3, 2, 2, 5}, api.ErrForm},
		{[]byte{48, 0}, api.ErrForm},
		{encode(wantNode(ordinary())), api.ErrForm},
		{encode(list(wantNode(ordinary()), algorithm(11))), api.ErrForm},
		{encode(list(wantNode(ordinary()), algorithm(12), bits(nil))), api.ErrForm},
		{encode(list(wantNode(ordinary()), algorithm(11), bits(nil), bits(nil))), api.ErrForm},
		{encode(nest(33)), api.ErrDeep},
		{sealed(nest(32), nil), api.ErrDeep},
		{sealed(wantNode(ordinary()), make([]byte, 20000)), api.ErrLarge},
		{sealed(wantNode(but(ordinary(), func(c *api.Crl) { c.Serials = many(5000, true) })), nil), api.ErrLarge},
		{make([]byte, 20001), api.ErrLarge},
	} {
		_, _, _, opening := spki.Open(c.b)
		if got, e := crl.Read(c.b); e != c.want || opening != c.want || !isZero(got) {
			t.Error(i, got, e)
		}
	}
}

// Elements that are sealed, but those of no list.
func TestReadOfOtherElements(t *testing.T) {
	right := wantNode(ordinary())
	put := func(i int, n api.Node) api.Node {
		other := cloneNode(right)
		other.Kids[i] = n
		return other
	}
	serials := func(bodies ...[]byte) api.Node {
		l := list()
		for _, body := range bodies {
			l.Kids = append(l.Kids, number(body...))
		}
		return put(3, l)
	}
	times := right.Kids[2].Kids
	for i, n := range []api.Node{
		{Tag: 5}, number(5), list(), list(list()), {Tag: 4, Body: encode(right)}, list(right), nest(8),
		list(list(), list(), list(), list()),
		list(right.Kids[:3]...), list(right.Kids[1:]...), list(append(slices.Clone(right.Kids), api.Node{Tag: 5})...), list(append(slices.Clone(right.Kids), list())...),
		{Tag: 49, Kids: right.Kids}, {Tag: 160, Kids: right.Kids}, {Tag: 32, Kids: right.Kids},
		put(0, text("")), put(0, text("\x1f")), put(0, text(strings.Repeat("x", 201))), put(0, api.Node{Tag: 12, Body: []byte("issuer")}), put(0, api.Node{Tag: 19, Body: []byte("issuer")}), put(0, list(text("issuer"))),
		put(1, number()), put(1, number(0, 77)), put(1, number(255)), put(1, number(1, 0, 0, 0, 77)), put(1, number(1, 0, 0, 0, 0, 0, 0, 0, 77)), put(1, api.Node{Tag: 1, Body: []byte{77}}),
		put(1, number(1, 0, 0, 0, 0)), put(1, number(0, 128, 0, 0, 0, 0, 0, 0, 77)), put(1, list()),
		put(2, list()), put(2, list(times[0])), put(2, list(times[1], times[0])), put(2, list(times[0], times[1], times[1])), put(2, times[0]), put(2, api.Node{Tag: 49, Kids: times}),
		put(2, list(api.Node{Tag: 24, Body: []byte("20010909014640Z")}, times[1])), put(2, list(times[0], api.Node{Tag: 23, Body: []byte("010910014640+0000")})),
		put(2, list(times[0], api.Node{Tag: 24, Body: []byte("22000101000000Z")})), put(2, list(api.Node{Tag: 5}, times[1])), put(2, list(times[0], list())),
		serials([]byte{5}, []byte{4}), serials([]byte{5}, []byte{5}), serials([]byte{0}, []byte{0}), serials([]byte{127}, []byte{0, 128}, []byte{127}),
		serials([]byte{}), serials([]byte{0, 1}), serials([]byte{128}), serials([]byte{255}), serials([]byte{1}, []byte{0, 2}), serials([]byte{1}, []byte{}),
		serials([]byte{1, 0, 0, 0, 0}), serials([]byte{1}, []byte{1, 0, 0, 0, 2}), serials([]byte{1, 0, 0, 0, 0, 0, 0, 0, 1}), serials([]byte{1}, []byte{0, 255, 255, 255, 255, 255, 255, 255, 255}),
		put(3, list(api.Node{Tag: 5})), put(3, list(number(1), list())), put(3, list(list(), number(1))), put(3, list(text("1"))), put(3, list(number(1), api.Node{Tag: 1, Body: []byte{2}}, number(3))),
		put(3, number(1)), put(3, api.Node{Tag: 5}), put(3, text("")), put(3, api.Node{Tag: 49}), put(3, api.Node{Tag: 49, Kids: right.Kids[3].Kids}), put(3, api.Node{Tag: 160}), put(3, list(list(number(1)))),
	} {
		b := sealed(n, []byte{9})
		if got, e := crl.Read(b); e != api.ErrForm || !isZero(got) {
			t.Errorf("%d %+v %d", i, got, e)
		}
		checkRead(t, b)
	}
}

// The element of a list that is not valid, where it differs in nothing else, is that of none.
func TestReadOfWrongLists(t *testing.T) {
	refused := 0
	for i, c := range wrong() {
		n := wantNode(c)
		if _, _, _, e := spki.Open(sealed(n, nil)); e != api.OK {
			continue // too large, or with an element that is none
		}
		refused++
		if got, e := crl.Read(sealed(n, nil)); e != api.ErrForm || !isZero(got) {
			t.Errorf("%d %+v %d", i, got, e)
		}
	}
	if refused < 100 {
		t.Error("too few were refused:", refused)
	}
}

// Lists of every length about the limit, whole, and with one number that is none at each end.
func TestReadOfTheMostSerials(t *testing.T) {
	for _, size := range []int{0, 1, 2, 398, 399, 400, 401, 402, 1000, 2500} {
		for _, great := range []bool{false, true} {
			n := wantNode(but(ordinary(), func(c *api.Crl) { c.Serials = many(size, great) }))
			if checkRead(t, sealed(n, nil)) != (size <= 400) {
				t.Error(size, great)
			}
			for _, other := range []api.Node{{Tag: 5}, number(), number(1, 0, 0, 0, 0), list()} {
				for _, kids := range [][]api.Node{append(slices.Clone(n.Kids[3].Kids), other), append([]api.Node{other}, n.Kids[3].Kids...)} {
					if checkRead(t, sealed(list(n.Kids[0], n.Kids[1], n.Kids[2], list(kids...)), nil)) {
						t.Error(size, great, other)
					}
				}
			}
		}
	}
}

func TestReadOfChangedElements(t *testing.T) {
	read := 0
	for _, c := range []api.Crl{ordinary(), none(), but(ordinary(), func(c *api.Crl) { c.Next = longTime })} {
		for i, once := range changedWithin(wantNode(c)) {
			if checkRead(t, sealed(once, []byte{1})) {
				read++
			}
			if i%19 != 0 {
				continue
			}
			for _, twice := range changedWithin(once) {
				if checkRead(t, sealed(twice, nil)) {
					read++
				}
			}
		}
	}
	if read < 1000 {
		t.Error("too few were read:", read)
	}
}

func TestReadOfChangedBytes(t *testing.T) {
	for _, c := range []api.Crl{ordinary(), none(), but(ordinary(), func(c *api.Crl) { c.Issuer = strings.Repeat("x", 150) })} {
		b := sealed(wantNode(c), []byte{3, 128})
		for i := range b {
			if checkRead(t, b[:i]) || checkRead(t, b[i+1:]) || checkRead(t, slices.Delete(slices.Clone(b), i, i+1)) {
				t.Fatal("read without some of its bytes:", i)
			}
			for value := range 256 {
				checkRead(t, withByte(b, i, byte(value)))
			}
		}
	}
}

func TestReadOfRandomBytes(t *testing.T) {
	r := rand.New(rand.NewSource(7))
	for range 20000 {
		b := make([]byte, r.Intn(60))
		r.Read(b)
		if len(b) > 2 && r.Intn(2) == 0 {
			b[0], b[1] = 48, byte(len(b)-2)
		}
		checkRead(t, b)
	}
}
