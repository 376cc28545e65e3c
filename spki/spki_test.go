package spki_test

import (
	"bytes"
	"crypto/rsa"
	"crypto/sha256"
	"crypto/x509"
	"encoding/hex"
	"math"
	"math/big"
	"math/rand"
	"slices"
	"testing"

	"lanyard/api"
	lanyardrsa "lanyard/rsa"
	"lanyard/scalar"
	"lanyard/sha"
	"lanyard/spki"
	"lanyard/tlv"
)

const (
	least = 62
	most  = 512
)

// bytesOf returns the bytes of hexadecimal digits.
func bytesOf(digits string) []byte {
	b, e := hex.DecodeString(digits)
	if e != nil {
		panic(e)
	}
	return b
}

// randomBytes are the same ones in every run.
func randomBytes(seed int64, size int) []byte {
	b := make([]byte, size)
	rand.New(rand.NewSource(seed)).Read(b)
	return b
}

func list(kids ...api.Node) api.Node {
	return api.Node{Tag: 48, Kids: kids}
}

func number(b ...byte) api.Node {
	return api.Node{Tag: 2, Body: b}
}

func octets(b ...byte) api.Node {
	return api.Node{Tag: 4, Body: b}
}

func bits(unused byte, b []byte) api.Node {
	return api.Node{Tag: 3, Body: append([]byte{unused}, b...)}
}

func null() api.Node {
	return api.Node{Tag: 5}
}

// oid returns the object identifier 1, 2, 840, 113549, 1, 1 and a last number.
func oid(last byte) api.Node {
	return api.Node{Tag: 6, Body: []byte{42, 134, 72, 134, 247, 13, 1, 1, last}}
}

func algorithm(last byte) api.Node {
	return list(oid(last), null())
}

// element puts a tag, and a length of its shortest form, before the contents.
func element(tag byte, contents ...[]byte) []byte {
	all := slices.Concat(contents...)
	head := []byte{tag, 130, byte(len(all) >> 8), byte(len(all))}
	switch {
	case len(all) < 128:
		head = []byte{tag, byte(len(all))}
	case len(all) < 256:
		head = []byte{tag, 129, byte(len(all))}
	}
	return append(head, all...)
}

// encode takes the Body and the Kids of any element, whatever its Tag is.
func encode(n api.Node) []byte {
	parts := [][]byte{n.Body}
	for _, kid := range n.Kids {
		parts = append(parts, encode(kid))
	}
	return element(byte(n.Tag), parts...)
}

// take returns the contents of the element at the beginning of b, if that has the tag, and the bytes behind it.
func take(b []byte, tag byte) (contents, rest []byte, ok bool) {
	for start := 2; start <= 4 && start <= len(b); start++ {
		size := int(b[1])
		if start > 2 {
			size = int(new(big.Int).SetBytes(b[2:start]).Int64())
		}
		if start+size > len(b) {
			continue
		}
		contents, rest = b[start:start+size], b[start+size:]
		if bytes.HasPrefix(b, element(tag, contents)) {
			return contents, rest, true
		}
	}
	return nil, nil, false
}

func sameNode(a, b api.Node) bool {
	return a.Tag == b.Tag && bytes.Equal(a.Body, b.Body) && slices.EqualFunc(a.Kids, b.Kids, sameNode)
}

func sameKey(a, b api.Key) bool {
	return a.E == b.E && bytes.Equal(a.N, b.N)
}

func cloneNode(n api.Node) api.Node {
	n.Body, n.Kids = bytes.Clone(n.Body), slices.Clone(n.Kids)
	for i, kid := range n.Kids {
		n.Kids[i] = cloneNode(kid)
	}
	return n
}

// modulusOf returns the bytes of a modulus that no one knows the primes of.
func modulusOf(seed int64, size int) []byte {
	n := randomBytes(seed, size)
	if size > 0 {
		n[0] |= 1
		n[size-1] |= 1
	}
	return n
}

// with returns b with another byte at i.
func with(b []byte, i int, value byte) []byte {
	b = slices.Clone(b)
	b[i] = value
	return b
}

// exponents are valid ones, at each length of their elements.
func exponents() []uint32 {
	return []uint32{3, 5, 17, 127, 129, 255, 257, 32767, 32769, 65535, 65537, 1<<23 - 1, 1<<23 + 1, 1<<24 - 1, 1<<24 + 1, 1<<31 - 1, 1<<31 + 1, math.MaxUint32 - 2, math.MaxUint32}
}

// keys are valid ones, of all sizes, with each edge of the first byte and of the exponent.
func keys() []api.Key {
	var l []api.Key
	for size := least; size <= most; size++ {
		l = append(l, api.Key{N: modulusOf(int64(size), size), E: exponents()[size%len(exponents())]})
	}
	for _, size := range []int{least, least + 1, 100, 128, 256, most - 1, most} {
		for _, first := range []byte{1, 2, 127, 128, 129, 255} {
			l = append(l, api.Key{N: with(modulusOf(int64(1000+size), size), 0, first), E: 65537})
		}
		l = append(l, api.Key{N: bytes.Repeat([]byte{255}, size), E: 3})
		l = append(l, api.Key{N: with(with(make([]byte, size), 0, 1), size-1, 1), E: 3})
		for _, exponent := range exponents() {
			l = append(l, api.Key{N: modulusOf(int64(2000+size), size), E: exponent})
		}
	}
	return l
}

// wrongKeys are keys that are not valid, most of them for one reason.
func wrongKeys() []api.Key {
	right := modulusOf(1, 100)
	l := []api.Key{
		{}, {N: []byte{}, E: 3}, {N: []byte{1}, E: 3}, {N: []byte{0}, E: 3}, {E: 65537}, {N: right},
		{N: modulusOf(2, 61), E: 3}, {N: modulusOf(3, 513), E: 3}, {N: modulusOf(4, 514), E: 3}, {N: modulusOf(5, 20000), E: 3}, {N: modulusOf(6, 70000), E: 3},
		{N: with(right, 0, 0), E: 3}, {N: with(modulusOf(7, least), 0, 0), E: 3}, {N: with(modulusOf(8, most), 0, 0), E: 3},
		{N: slices.Concat([]byte{0}, modulusOf(9, least)), E: 3}, {N: slices.Concat([]byte{0}, modulusOf(10, most)), E: 3},
		{N: with(right, 99, 0), E: 3}, {N: with(right, 99, 254), E: 3}, {N: make([]byte, 100), E: 3},
	}
	for _, e := range []uint32{0, 1, 2, 4, 6, 256, 65536, 1 << 31, math.MaxUint32 - 1} {
		l = append(l, api.Key{N: right, E: e})
	}
	return l
}

func isKey(k api.Key) bool {
	return len(k.N) >= least && len(k.N) <= most && k.N[0] > 0 && k.N[len(k.N)-1]%2 == 1 && k.E%2 == 1 && k.E > 1
}

// wantNumber returns the shortest two's complement bytes of a number that is not negative.
func wantNumber(n *big.Int) api.Node {
	b := n.Bytes()
	if len(b) == 0 || b[0] > 127 {
		b = append([]byte{0}, b...)
	}
	return number(b...)
}

func wantInner(k api.Key) api.Node {
	return list(wantNumber(new(big.Int).SetBytes(k.N)), wantNumber(new(big.Int).SetUint64(uint64(k.E))))
}

// wantNode follows the promise about the element of a valid key.
func wantNode(k api.Key) api.Node {
	return withInner(encode(wantInner(k)))
}

func withInner(inner []byte) api.Node {
	return list(algorithm(1), bits(0, inner))
}

// libraryKey returns the key as the Go library has it.
func libraryKey(k api.Key) *rsa.PublicKey {
	return &rsa.PublicKey{N: new(big.Int).SetBytes(k.N), E: int(k.E)}
}

// positive returns the number of an integer's contents without leading zeros, if it is greater than 0 and written in the fewest bytes.
func positive(b []byte) ([]byte, bool) {
	n := new(big.Int).SetBytes(b)
	return n.Bytes(), n.Sign() > 0 && bytes.Equal(wantNumber(n).Body, b)
}

// wantRead checks every part of an element, instead of encoding again what it has read.
func wantRead(n api.Node) (api.Key, bool) {
	if n.Tag != 48 || len(n.Body) != 0 || len(n.Kids) != 2 || !sameNode(n.Kids[0], algorithm(1)) {
		return api.Key{}, false
	}
	if b := n.Kids[1]; b.Tag != 3 || len(b.Kids) != 0 || len(b.Body) == 0 || b.Body[0] != 0 {
		return api.Key{}, false
	}
	inner, behind, isList := take(n.Kids[1].Body[1:], 48)
	first, rest, isFirst := take(inner, 2)
	second, rest, isSecond := take(rest, 2)
	modulus, isModulus := positive(first)
	exponent, isExponent := positive(second)
	if !isList || !isFirst || !isSecond || !isModulus || !isExponent || len(behind) != 0 || len(rest) != 0 || len(exponent) > 4 {
		return api.Key{}, false
	}
	k := api.Key{N: modulus, E: uint32(new(big.Int).SetBytes(exponent).Uint64())}
	return k, isKey(k)
}

// changed returns elements that differ from n itself in one thing, each in its own memory.
func changed(n api.Node) []api.Node {
	var l []api.Node
	change := func(f func(*api.Node)) {
		other := cloneNode(n)
		f(&other)
		l = append(l, other)
	}
	for _, tag := range []int{0, 2, 3, 4, 5, 6, 16, 48, 49, 160, -48, n.Tag + 1, n.Tag ^ 32, n.Tag + 256} {
		change(func(n *api.Node) { n.Tag = tag })
	}
	for _, b := range []byte{0, 1, 127, 128, 255} {
		change(func(n *api.Node) { n.Body = append(n.Body, b) })
		change(func(n *api.Node) { n.Body = append([]byte{b}, n.Body...) })
	}
	for i := range n.Body {
		change(func(n *api.Node) { n.Body = slices.Delete(n.Body, i, i+1) })
		for _, more := range []byte{1, 2, 3, 10, 127, 128, 129, 254, 255} {
			change(func(n *api.Node) { n.Body[i] += more })
		}
	}
	for _, kid := range []api.Node{{}, null(), list(), octets(10), number(3), oid(1), algorithm(1), bits(0, nil)} {
		change(func(n *api.Node) { n.Kids = append(n.Kids, kid) })
		change(func(n *api.Node) { n.Kids = append([]api.Node{kid}, n.Kids...) })
	}
	for i := range n.Kids {
		change(func(n *api.Node) { n.Kids = slices.Delete(n.Kids, i, i+1) })
		change(func(n *api.Node) { n.Kids = n.Kids[:i] })
		change(func(n *api.Node) { n.Kids[i], n.Kids[0] = n.Kids[0], n.Kids[i] })
		change(func(n *api.Node) { n.Kids = slices.Insert(n.Kids, i, cloneNode(n.Kids[i])) })
	}
	return l
}

// changedWithin returns elements that differ from n in one thing, in n itself or in an element within it.
func changedWithin(n api.Node) []api.Node {
	l := changed(n)
	for i, kid := range n.Kids {
		for _, other := range changedWithin(kid) {
			whole := cloneNode(n)
			whole.Kids[i] = other
			l = append(l, whole)
		}
	}
	return l
}

// changedBytes returns bytes that differ from b in one byte, or have one more or one less.
func changedBytes(b []byte) [][]byte {
	var l [][]byte
	for i := range b {
		l = append(l, slices.Delete(slices.Clone(b), i, i+1))
		for value := range 256 {
			l = append(l, with(b, i, byte(value)))
		}
	}
	for i := range len(b) + 1 {
		for _, value := range []byte{0, 1, 2, 3, 5, 48, 127, 128, 129, 130, 255} {
			l = append(l, slices.Insert(slices.Clone(b), i, value))
		}
	}
	return l
}

// P14.1

func TestNodeInBytes(t *testing.T) {
	modulus := slices.Concat([]byte{128}, make([]byte, 60), []byte{1})
	n, e := spki.Node(api.Key{N: modulus, E: 65537})
	b, written := tlv.Write(n)
	want := slices.Concat(
		[]byte{48, 90},
		[]byte{48, 13, 6, 9, 42, 134, 72, 134, 247, 13, 1, 1, 1, 5, 0},
		[]byte{3, 73, 0, 48, 70},
		[]byte{2, 63, 0}, modulus,
		[]byte{2, 3, 1, 0, 1},
	)
	if e != api.OK || written != api.OK || !bytes.Equal(b, want) {
		t.Error(b, e, written)
	}
	modulus[0] = 127
	n, e = spki.Node(api.Key{N: modulus, E: 255})
	want = slices.Concat([]byte{48, 68, 2, 62}, modulus, []byte{2, 2, 0, 255})
	if e != api.OK || !sameNode(n, list(algorithm(1), bits(0, want))) {
		t.Error(n, e)
	}
}

func TestNodeOfKnownKeys(t *testing.T) {
	for _, known := range knownKeys() {
		n, e := spki.Node(api.Key{N: bytesOf(known.modulus), E: known.exponent})
		b, written := tlv.Write(n)
		if e != api.OK || written != api.OK || !bytes.Equal(b, bytesOf(known.element)) {
			t.Error(b, e, written)
		}
	}
}

func TestNode(t *testing.T) {
	for _, k := range keys() {
		n, e := spki.Node(k)
		if !isKey(k) || e != api.OK || !sameNode(n, wantNode(k)) {
			t.Fatal(k, n, e)
		}
	}
}

func TestNodeIsThatOfTheLibrary(t *testing.T) {
	for _, k := range keys() {
		want, wrong := x509.MarshalPKIXPublicKey(libraryKey(k))
		n, e := spki.Node(k)
		b, written := tlv.Write(n)
		if wrong != nil || e != api.OK || written != api.OK || !bytes.Equal(b, want) {
			t.Fatal(k, b, want, wrong, e, written)
		}
	}
}

func TestNodeAndNameOfWrongKeys(t *testing.T) {
	for _, k := range wrongKeys() {
		if n, e := spki.Node(k); isKey(k) || e != api.ErrArg || !sameNode(n, api.Node{}) {
			t.Error(k, n, e)
		}
		if name, e := spki.Name(k); e != api.ErrArg || name != "" {
			t.Error(k, name, e)
		}
	}
}

// A key is valid, for Node and for Name, where rsa says so.
func TestValidKeysAreThoseOfRsa(t *testing.T) {
	for size := range 600 {
		for exponent := range uint32(9) {
			for _, first := range []byte{0, 1} {
				k := api.Key{N: modulusOf(int64(size), size), E: exponent}
				if size > 0 && first == 0 {
					k.N[0] = 0
				}
				want := api.ErrArg
				if lanyardrsa.Right(k) {
					want = api.OK
				}
				_, e := spki.Node(k)
				_, named := spki.Name(k)
				if e != want || named != want || isKey(k) != (want == api.OK) {
					t.Fatal(k, e, named, want)
				}
			}
		}
	}
}

func checkRead(t *testing.T, n api.Node) {
	t.Helper()
	want, ok := wantRead(n)
	got, e := spki.Read(n)
	switch {
	case ok && (e != api.OK || !sameKey(got, want)):
		t.Fatal("not read:", n, got, e)
	case !ok && (e != api.ErrForm || !sameKey(got, api.Key{})):
		t.Fatal("read:", n, got, e)
	}
	if again, e := spki.Node(got); ok && (e != api.OK || !sameNode(again, n)) {
		t.Fatal("what is read has another element:", n, got, again, e)
	}
}

func TestRead(t *testing.T) {
	for _, k := range keys() {
		n := wantNode(k)
		if got, e := spki.Read(n); e != api.OK || !sameKey(got, k) {
			t.Fatal(k, got, e)
		}
		n.Body, n.Kids[0].Body, n.Kids[0].Kids[0].Kids, n.Kids[0].Kids[1].Body, n.Kids[1].Kids = []byte{}, []byte{}, []api.Node{}, []byte{}, []api.Node{}
		if got, e := spki.Read(n); e != api.OK || !sameKey(got, k) {
			t.Fatal("empty slices are like nil ones:", k, got, e)
		}
		checkRead(t, n)
	}
}

func TestReadOfKnownKeys(t *testing.T) {
	for _, known := range knownKeys() {
		n, e := tlv.Read(bytesOf(known.element))
		if e != api.OK {
			t.Fatal(known, e)
		}
		if k, e := spki.Read(n); e != api.OK || k.E != known.exponent || !bytes.Equal(k.N, bytesOf(known.modulus)) {
			t.Error(known, k, e)
		}
	}
}

func TestReadOfWrongElements(t *testing.T) {
	k := api.Key{N: modulusOf(1, least), E: 65537}
	inner := encode(wantInner(k))
	modulus, exponent := wantInner(k).Kids[0], wantInner(k).Kids[1]
	right := withInner(inner)
	for _, n := range []api.Node{
		{},
		{Tag: -48, Kids: right.Kids},
		{Tag: 49, Kids: right.Kids},
		{Tag: 16, Kids: right.Kids},
		{Tag: 48 + 256, Kids: right.Kids},
		{Tag: 48, Kids: right.Kids, Body: []byte{0}},
		{Tag: 48, Body: encode(right)[2:]},
		right.Kids[0],
		right.Kids[1],
		wantInner(k),
		null(),
		list(),
		list(right),
		list(algorithm(1)),
		list(bits(0, inner)),
		list(bits(0, inner), algorithm(1)),
		list(algorithm(1), bits(0, inner), null()),
		list(algorithm(1), bits(0, inner), bits(0, inner)),
		list(null(), algorithm(1), bits(0, inner)),
		list(algorithm(11), bits(0, inner)),
		list(algorithm(0), bits(0, inner)),
		list(list(oid(1)), bits(0, inner)),
		list(list(null(), oid(1)), bits(0, inner)),
		list(list(oid(1), null(), null()), bits(0, inner)),
		list(list(oid(1), list()), bits(0, inner)),
		list(list(oid(1), api.Node{Tag: 5, Body: []byte{0}}), bits(0, inner)),
		list(list(oid(1), api.Node{Tag: 5, Kids: []api.Node{{}}}), bits(0, inner)),
		list(list(api.Node{Tag: 6, Body: oid(1).Body[:8]}, null()), bits(0, inner)),
		list(list(api.Node{Tag: 6, Body: append(oid(1).Body, 1)}, null()), bits(0, inner)),
		list(list(api.Node{Tag: 4, Body: oid(1).Body}, null()), bits(0, inner)),
		list(list(), bits(0, inner)),
		list(oid(1), bits(0, inner)),
		list(null(), bits(0, inner)),
		list(algorithm(1), octets(inner...)),
		list(algorithm(1), octets(append([]byte{0}, inner...)...)),
		list(algorithm(1), api.Node{Tag: 3, Body: inner}),
		list(algorithm(1), api.Node{Tag: 3}),
		list(algorithm(1), api.Node{Tag: 3, Body: append([]byte{0}, inner...), Kids: []api.Node{{}}}),
		list(algorithm(1), api.Node{Tag: 3, Kids: []api.Node{wantInner(k)}}),
		list(algorithm(1), wantInner(k)),
		list(algorithm(1), bits(0, nil)),
		list(algorithm(1), bits(1, nil)),
		list(algorithm(1), bits(255, inner)),
		list(algorithm(1), bits(8, inner)),
		withInner(inner[:len(inner)-1]),
		withInner(append(slices.Clone(inner), 0)),
		withInner(slices.Concat(inner, inner)),
		withInner(slices.Concat([]byte{48, 129, inner[1]}, inner[2:])),
		withInner(slices.Concat([]byte{48, 128}, inner[2:], []byte{0, 0})),
		withInner(encode(list())),
		withInner(encode(list(modulus))),
		withInner(encode(list(exponent))),
		withInner(encode(list(exponent, modulus))),
		withInner(encode(list(modulus, exponent, exponent))),
		withInner(encode(list(modulus, exponent, null()))),
		withInner(encode(list(number(0), modulus, exponent))),
		withInner(encode(api.Node{Tag: 49, Kids: []api.Node{modulus, exponent}})),
		withInner(encode(list(octets(modulus.Body...), exponent))),
		withInner(encode(list(modulus, octets(exponent.Body...)))),
		withInner(encode(list(modulus, list(exponent)))),
		withInner(encode(list(modulus, null()))),
		withInner(encode(list(modulus, number()))),
		withInner(encode(list(modulus, number(0, 1, 0, 1)))),
		withInner(encode(list(modulus, number(1, 0, 0)))), // even
		withInner(encode(list(modulus, number(1)))),
		withInner(encode(list(modulus, number(255)))), // negative
		withInner(encode(list(modulus, number(1, 0, 1, 0, 1)))),
		withInner(encode(list(modulus, number(1, 0, 0, 0, 3)))), // 2^32 more than 3
		withInner(encode(list(modulus, number(1, 0, 0, 0, 0, 0, 1, 0, 1)))),
		withInner(encode(list(number(append([]byte{0, 0}, modulus.Body...)...), exponent))),
		withInner(encode(list(number(), exponent))),
		withInner(encode(list(number(0), exponent))),
		withInner(bytes.Repeat([]byte{48, 2}, 40)),
		withInner(make([]byte, 19999)),
		withInner(make([]byte, 20001)),
		withInner(make([]byte, 100000)),
	} {
		if got, e := spki.Read(n); e != api.ErrForm || !sameKey(got, api.Key{}) {
			t.Error(n, got, e)
		}
		checkRead(t, n)
	}
	checkRead(t, right)
}

func TestReadOfElementsOfWrongKeys(t *testing.T) {
	for _, k := range wrongKeys() {
		checkRead(t, wantNode(k)) // it may be that of another key, which is valid
	}
	zero := slices.Concat([]byte{0}, modulusOf(9, least))
	if k, e := spki.Read(wantNode(api.Key{N: zero, E: 3})); e != api.OK || !bytes.Equal(k.N, zero[1:]) {
		t.Error("the element has no place for a zero before the modulus:", k, e)
	}
}

// Elements with another number of unused bits, which are 0, are no element of a key.
func TestReadOfUnusedBits(t *testing.T) {
	inner := encode(list(wantNumber(new(big.Int).SetBytes(modulusOf(1, least))), number(1, 0, 0, 128)))
	for unused := range 256 {
		checkRead(t, list(algorithm(1), bits(byte(unused), inner)))
	}
	right := encode(wantInner(api.Key{N: modulusOf(1, least), E: 3}))
	for unused := range 256 {
		checkRead(t, list(algorithm(1), bits(byte(unused), right)))
		checkRead(t, list(algorithm(1), bits(byte(unused), append(slices.Clone(right), 0))))
	}
}

func TestReadOfChangedElements(t *testing.T) {
	for _, k := range []api.Key{{N: modulusOf(1, least), E: 3}, {N: with(modulusOf(2, least), 0, 200), E: 65537}, {N: modulusOf(3, 131), E: math.MaxUint32}} {
		for _, n := range changedWithin(wantNode(k)) {
			checkRead(t, n)
		}
		for _, inner := range changedWithin(wantInner(k)) {
			checkRead(t, withInner(encode(inner)))
		}
		for _, inner := range changedBytes(encode(wantInner(k))) {
			checkRead(t, withInner(inner))
		}
	}
}

func TestReadOfTwiceChangedElements(t *testing.T) {
	n := wantNode(api.Key{N: modulusOf(4, least), E: 3})
	for _, once := range changed(n.Kids[0]) {
		for _, twice := range append(changed(once), changedWithin(once)...) {
			checkRead(t, list(twice, n.Kids[1]))
		}
	}
	inner := wantInner(api.Key{N: modulusOf(4, least), E: 3})
	for _, once := range changed(inner.Kids[1]) {
		for _, twice := range append(changed(once), changed(list(inner.Kids[0], once))...) {
			checkRead(t, withInner(encode(list(inner.Kids[0], twice))))
			checkRead(t, withInner(encode(twice)))
		}
	}
}

func TestReadOfExponents(t *testing.T) {
	modulus := wantNumber(new(big.Int).SetBytes(modulusOf(5, least)))
	bodies := [][]byte{nil}
	for i := 0; i < len(bodies); i++ {
		checkRead(t, withInner(encode(list(modulus, number(bodies[i]...)))))
		for _, b := range []byte{0, 1, 3, 127, 128, 255} {
			if len(bodies[i]) < 6 {
				bodies = append(bodies, append(slices.Clone(bodies[i]), b))
			}
		}
	}
	for _, exponent := range exponents() {
		checkRead(t, withInner(encode(list(modulus, wantNumber(new(big.Int).SetUint64(uint64(exponent)))))))
		for shift := 32; shift < 80; shift++ {
			more := new(big.Int).Lsh(big.NewInt(1), uint(shift))
			checkRead(t, withInner(encode(list(modulus, wantNumber(more.Add(more, big.NewInt(int64(exponent))))))))
		}
	}
}

func TestReadOfModuli(t *testing.T) {
	for _, size := range []int{0, 1, 59, 60, 61, 62, 63, 64, 100, 509, 510, 511, 512, 513, 514, 1000} {
		for _, head := range [][]byte{nil, {0}, {0, 0}, {1}, {127}, {128}, {255}, {0, 1}, {0, 127}, {0, 128}, {0, 255}, {0, 0, 128}, {255, 128}} {
			for _, last := range [][]byte{nil, {0}, {1}, {254}, {255}} {
				modulus := number(slices.Concat(head, randomBytes(int64(size), size), last)...)
				checkRead(t, withInner(encode(list(modulus, number(3)))))
			}
		}
	}
}

// P0: an element may contain itself.
func TestReadOfEndlessElements(t *testing.T) {
	for _, tag := range []int{3, 5, 48} {
		for many := 1; many <= 3; many++ {
			n := api.Node{Tag: tag, Kids: make([]api.Node, many)}
			for i := range many {
				n.Kids[i] = n
			}
			right := wantNode(api.Key{N: modulusOf(1, least), E: 3})
			for _, whole := range []api.Node{n, list(n, n), list(n, right.Kids[1]), list(right.Kids[0], n), list(list(oid(1), n), right.Kids[1])} {
				if got, e := spki.Read(whole); e != api.ErrForm || !sameKey(got, api.Key{}) {
					t.Error(tag, many, got, e)
				}
			}
		}
	}
	deep := null()
	for range 60000 {
		deep = list(deep, deep)
	}
	if got, e := spki.Read(deep); e != api.ErrForm || !sameKey(got, api.Key{}) {
		t.Error(got, e)
	}
}

func TestNameOfKnownKeys(t *testing.T) {
	for _, known := range knownKeys() {
		if name, e := spki.Name(api.Key{N: bytesOf(known.modulus), E: known.exponent}); e != api.OK || name != known.name {
			t.Error(name, known.name, e)
		}
	}
}

func TestName(t *testing.T) {
	for _, k := range keys() {
		name, e := spki.Name(k)
		hash := sha256.Sum256(x509.MarshalPKCS1PublicKey(libraryKey(k)))
		if e != api.OK || name != hex.EncodeToString(hash[:20]) || len(name) != 40 {
			t.Fatal(k, name, e)
		}
		if name != sha.Name(encode(wantInner(k))) {
			t.Fatal("not the name of the inner element:", k, name)
		}
	}
}

// P14.2

func signatures() [][]byte {
	l := [][]byte{nil, {}, {0}, {1}, {128}, {255}, {0, 0}, {5, 0}}
	for _, size := range []int{3, 62, 125, 126, 127, 128, 129, 253, 254, 255, 256, 257, 512, 1000} {
		l = append(l, randomBytes(int64(size), size))
	}
	return l
}

// nest returns an element of that depth.
func nest(deep int) api.Node {
	n := list()
	for range deep - 1 {
		n = list(n)
	}
	return n
}

// elements are such as can be written, of all kinds and at all edges of lengths.
func elements() []api.Node {
	l := []api.Node{
		{}, null(), list(), number(5), number(1, 0, 1), octets(), octets(1, 2, 3), bits(0, []byte{1, 2}), bits(3, []byte{160}), oid(1), algorithm(11), algorithm(1),
		{Tag: 49, Kids: []api.Node{number(1), number(2)}}, {Tag: 160, Kids: []api.Node{number(2)}}, {Tag: 128, Body: []byte("uri")}, {Tag: 254}, {Tag: 222, Body: []byte{1}}, {Tag: 32},
		list(number(1), list(octets(1, 2), list(null(), list()), api.Node{Tag: 163}), bits(0, nil)),
		list(list(), algorithm(11), bits(0, []byte{1, 2, 3})), // sealed itself
		wantNode(api.Key{N: modulusOf(1, 256), E: 65537}),
		nest(2), nest(30), nest(31),
	}
	for _, size := range []int{90, 100, 108, 109, 110, 127, 128, 220, 235, 236, 237, 238, 255, 256, 257, 5000} {
		l = append(l, octets(randomBytes(int64(size), size)...), list(octets(randomBytes(int64(size), size)...), number(1)))
	}
	return l
}

func wantSeal(n api.Node, sig []byte) []byte {
	return encode(list(n, algorithm(11), bits(0, sig)))
}

func TestSealInBytes(t *testing.T) {
	b, e := spki.Seal(number(5), []byte{255, 0, 7})
	want := []byte{48, 24, 2, 1, 5, 48, 13, 6, 9, 42, 134, 72, 134, 247, 13, 1, 1, 11, 5, 0, 3, 4, 0, 255, 0, 7}
	if e != api.OK || !bytes.Equal(b, want) {
		t.Error(b, e)
	}
	b, e = spki.Seal(list(), nil)
	want = []byte{48, 20, 48, 0, 48, 13, 6, 9, 42, 134, 72, 134, 247, 13, 1, 1, 11, 5, 0, 3, 1, 0}
	if e != api.OK || !bytes.Equal(b, want) {
		t.Error(b, e)
	}
}

func TestSeal(t *testing.T) {
	for _, n := range elements() {
		for _, sig := range signatures() {
			if b, e := spki.Seal(n, sig); e != api.OK || !bytes.Equal(b, wantSeal(n, sig)) {
				t.Fatal(n, sig, b, e)
			}
		}
	}
}

// unwritable are elements that have no encoding because of their form.
func unwritable() []api.Node {
	l := []api.Node{
		{Tag: 31}, {Tag: 63}, {Tag: 95}, {Tag: 255}, {Tag: 256}, {Tag: 48 + 256}, {Tag: -1}, {Tag: -48}, {Tag: math.MaxInt}, {Tag: math.MinInt},
		{Tag: 48, Body: []byte{1}}, {Tag: 160, Body: []byte{1}, Kids: []api.Node{null()}}, {Tag: 4, Kids: []api.Node{null()}}, {Tag: 5, Kids: []api.Node{{}}}, {Tag: 128, Body: []byte{1}, Kids: []api.Node{null()}},
	}
	for _, n := range slices.Clone(l) {
		l = append(l, list(n), list(null(), list(number(1), n), octets(1)))
	}
	return l
}

func checkNotSealed(t *testing.T, n api.Node, sig []byte, want api.Errno) {
	t.Helper()
	if b, e := spki.Seal(n, sig); e != want || len(b) != 0 {
		t.Error(n.Tag, len(n.Body), len(n.Kids), len(sig), len(b), e, want)
	}
}

func TestSealOfWhatCanNotBeWritten(t *testing.T) {
	for _, n := range unwritable() {
		for _, sig := range [][]byte{nil, {1, 2}, make([]byte, 30000)} {
			checkNotSealed(t, n, sig, api.ErrForm)
			checkNotSealed(t, list(nest(40), n), sig, api.ErrForm)
		}
	}
	for deep := 32; deep < 40; deep++ {
		checkNotSealed(t, nest(deep), []byte{1}, api.ErrDeep)
		checkNotSealed(t, nest(deep), make([]byte, 30000), api.ErrDeep)
		checkNotSealed(t, list(octets(make([]byte, 30000)...), nest(deep-1)), nil, api.ErrDeep)
	}
	for _, size := range []int{19981, 20000, 65536, 70000, 1 << 22} {
		checkNotSealed(t, null(), make([]byte, size), api.ErrLarge)
		checkNotSealed(t, octets(make([]byte, size)...), nil, api.ErrLarge)
		checkNotSealed(t, octets(make([]byte, size)...), make([]byte, size), api.ErrLarge)
	}
}

// Of both the element and the signature, one byte more than fits is too large.
func TestSealOfTheMostBytes(t *testing.T) {
	for _, c := range []struct {
		n   api.Node
		sig []byte
	}{
		{octets(make([]byte, 19974)...), nil},
		{octets(make([]byte, 10000)...), make([]byte, 9972)},
		{octets(), make([]byte, 19974)},
		{nest(31), make([]byte, 19914)},
	} {
		b, e := spki.Seal(c.n, c.sig)
		if e != api.OK || len(b) != 20000 || !bytes.Equal(b, wantSeal(c.n, c.sig)) {
			t.Error(len(c.n.Body), len(c.sig), len(b), e)
		}
		n, said, sig, e := spki.Open(b)
		if e != api.OK || !sameNode(n, c.n) || !bytes.Equal(said, encode(c.n)) || !bytes.Equal(sig, c.sig) {
			t.Error(len(c.n.Body), len(c.sig), e)
		}
		checkNotSealed(t, c.n, append(slices.Clone(c.sig), 0), api.ErrLarge)
		if c.n.Tag == 4 {
			checkNotSealed(t, octets(append(slices.Clone(c.n.Body), 0)...), c.sig, api.ErrLarge)
		}
	}
}

// P14.3

func isNothing(n api.Node, said, sig []byte) bool {
	return sameNode(n, api.Node{}) && len(said) == 0 && len(sig) == 0
}

// wantOpen cuts what is signed out of b itself.
func wantOpen(b []byte) (n api.Node, said, sig []byte, e api.Errno) {
	whole, e := tlv.Read(b)
	if e != api.OK {
		return api.Node{}, nil, nil, e
	}
	if whole.Tag != 48 || len(whole.Kids) != 3 || !sameNode(whole.Kids[1], algorithm(11)) {
		return api.Node{}, nil, nil, api.ErrForm
	}
	last := whole.Kids[2]
	if last.Tag != 3 || len(last.Body) == 0 || last.Body[0] != 0 {
		return api.Node{}, nil, nil, api.ErrForm
	}
	contents, _, _ := take(b, 48)
	behind := len(encode(algorithm(11))) + len(encode(last))
	return whole.Kids[0], contents[:len(contents)-behind], last.Body[1:], api.OK
}

func checkOpen(t *testing.T, b []byte) {
	t.Helper()
	wantN, wantSaid, wantSig, want := wantOpen(b)
	n, said, sig, e := spki.Open(b)
	if e != want || !sameNode(n, wantN) || !bytes.Equal(said, wantSaid) || !bytes.Equal(sig, wantSig) {
		t.Fatal(b, n, said, sig, e, want)
	}
	if e != api.OK {
		return
	}
	if again, e := spki.Seal(n, sig); e != api.OK || !bytes.Equal(again, b) {
		t.Fatal("what is opened has another seal:", b, again, e)
	}
}

func TestOpenInBytes(t *testing.T) {
	b := []byte{48, 24, 2, 1, 5, 48, 13, 6, 9, 42, 134, 72, 134, 247, 13, 1, 1, 11, 5, 0, 3, 4, 0, 255, 0, 7}
	n, said, sig, e := spki.Open(b)
	if e != api.OK || !sameNode(n, number(5)) || !bytes.Equal(said, []byte{2, 1, 5}) || !bytes.Equal(sig, []byte{255, 0, 7}) {
		t.Error(n, said, sig, e)
	}
	n, said, sig, e = spki.Open([]byte{48, 6, 2, 1, 5, 2, 1, 5}) // two elements
	if e != api.ErrForm || !isNothing(n, said, sig) {
		t.Error(n, said, sig, e)
	}
}

func TestOpen(t *testing.T) {
	for _, one := range elements() {
		for _, s := range signatures() {
			b := wantSeal(one, s)
			n, said, sig, e := spki.Open(b)
			if e != api.OK || !sameNode(n, one) || !bytes.Equal(said, encode(one)) || !bytes.Equal(sig, s) {
				t.Fatal(one, s, n, said, sig, e)
			}
			checkOpen(t, b)
		}
	}
}

// The signature of a certificate that was opened is that of what was signed, by the key that the certificate contains.
func TestOpenOfKnownCertificate(t *testing.T) {
	known := knownCertificate()
	n, said, sig, e := spki.Open(bytesOf(known.whole))
	if e != api.OK || !bytes.Equal(said, bytesOf(known.said)) || !bytes.Equal(sig, bytesOf(known.sig)) || !bytes.Equal(encode(n), said) || len(n.Kids) != 8 {
		t.Fatal(n, said, sig, e)
	}
	k, e := spki.Read(n.Kids[6])
	if e != api.OK || !bytes.Equal(k.N, bytesOf(knownKeys()[1].modulus)) || k.E != knownKeys()[1].exponent {
		t.Fatal(k, e)
	}
	if e := lanyardrsa.Verify(k, said, sig); e != api.OK {
		t.Error(e)
	}
	if e := lanyardrsa.Verify(k, said[1:], sig); e != api.ErrSign {
		t.Error(e)
	}
}

// The signature algorithms with SHA-1, SHA-384 and SHA-512, and others near them, are others.
func TestOpenOfOtherAlgorithms(t *testing.T) {
	whole := bytesOf(knownCertificate().whole)
	at := bytes.LastIndex(whole, oid(11).Body) + len(oid(11).Body) - 1
	for last := range 256 {
		n, said, sig, e := spki.Open(with(whole, at, byte(last)))
		if last == 11 && e != api.OK || last != 11 && (e != api.ErrForm || !isNothing(n, said, sig)) {
			t.Error(last, e)
		}
	}
}

func TestOpenOfWrongBytes(t *testing.T) {
	n, sig := number(5), bits(0, []byte{255, 0, 7})
	for _, whole := range []api.Node{
		{}, null(), number(5), octets(1, 2), list(), sig,
		list(n), list(n, n), list(n, algorithm(11)), list(n, sig), list(algorithm(11), sig), list(n, n, n),
		list(n, algorithm(11), sig, null()),
		list(n, algorithm(11), sig, sig),
		list(n, n, algorithm(11), sig),
		list(null(), n, algorithm(11), sig),
		list(n, sig, algorithm(11)),
		list(algorithm(11), n, sig),
		list(sig, algorithm(11), n),
		list(list(n, algorithm(11), sig)),
		{Tag: 49, Kids: []api.Node{n, algorithm(11), sig}},
		{Tag: 160, Kids: []api.Node{n, algorithm(11), sig}},
		{Tag: 32, Kids: []api.Node{n, algorithm(11), sig}},
		{Tag: 16, Body: encode(list(n, algorithm(11), sig))[2:]},
		list(n, algorithm(1), sig),
		list(n, algorithm(10), sig),
		list(n, algorithm(12), sig),
		list(n, oid(11), sig),
		list(n, list(), sig),
		list(n, null(), sig),
		list(n, list(oid(11)), sig),
		list(n, list(null(), oid(11)), sig),
		list(n, list(oid(11), null(), null()), sig),
		list(n, list(oid(11), list()), sig),
		list(n, list(oid(11), api.Node{Tag: 5, Body: []byte{0}}), sig),
		list(n, list(octets(oid(11).Body...), null()), sig),
		list(n, list(api.Node{Tag: 6, Body: oid(11).Body[:8]}, null()), sig),
		list(n, list(api.Node{Tag: 6, Body: append(oid(11).Body, 1)}, null()), sig),
		list(n, api.Node{Tag: 49, Kids: algorithm(11).Kids}, sig),
		list(n, algorithm(11), api.Node{Tag: 3}),
		list(n, algorithm(11), bits(1, nil)),
		list(n, algorithm(11), bits(1, []byte{254})),
		list(n, algorithm(11), bits(7, []byte{255, 128})),
		list(n, algorithm(11), bits(8, []byte{1, 0})),
		list(n, algorithm(11), bits(255, []byte{1, 0})),
		list(n, algorithm(11), octets(0, 255, 0, 7)),
		list(n, algorithm(11), number(0, 255, 0, 7)),
		list(n, algorithm(11), list(sig)),
		list(n, algorithm(11), null()),
		list(n, algorithm(11), api.Node{Tag: 35, Kids: []api.Node{sig}}),
	} {
		b := encode(whole)
		if n, said, sig, e := spki.Open(b); e != api.ErrForm || !isNothing(n, said, sig) {
			t.Error(b, n, said, sig, e)
		}
		checkOpen(t, b)
	}
}

func TestOpenReturnsTheErrorsOfTlv(t *testing.T) {
	right := wantSeal(number(5), []byte{1, 2, 3})
	for _, c := range []struct {
		b    []byte
		want api.Errno
	}{
		{nil, api.ErrShort},
		{[]byte{}, api.ErrShort},
		{[]byte{48}, api.ErrShort},
		{right[:len(right)-1], api.ErrShort},
		{right[:10], api.ErrShort},
		{[]byte{31, 0}, api.ErrForm},
		{[]byte{48, 3, 2, 2, 5}, api.ErrForm},
		{[]byte{2, 129, 1, 5}, api.ErrForm},
		{append(slices.Clone(right), 0), api.ErrForm},
		{slices.Concat([]byte{48, 129, right[1]}, right[2:]), api.ErrForm},
		{wantSeal(nest(32), nil), api.ErrDeep},
		{encode(nest(33)), api.ErrDeep},
		{encode(nest(100)), api.ErrDeep},
		{wantSeal(octets(make([]byte, 19975)...), nil), api.ErrLarge},
		{make([]byte, 20001), api.ErrLarge},
		{make([]byte, 1<<20), api.ErrLarge},
		{append(slices.Clone(right), make([]byte, 20000)...), api.ErrLarge},
	} {
		if n, said, sig, e := spki.Open(c.b); e != c.want || !isNothing(n, said, sig) {
			t.Error(len(c.b), n, said, sig, e, c.want)
		}
		checkOpen(t, c.b)
	}
}

func TestOpenOfPartsOfSealedBytes(t *testing.T) {
	for _, b := range [][]byte{wantSeal(list(), nil), wantSeal(elements()[18], randomBytes(1, 300)), bytesOf(knownCertificate().whole)} {
		for i := range b {
			if n, said, sig, e := spki.Open(b[:i]); e != api.ErrShort || !isNothing(n, said, sig) {
				t.Fatal(i, n, said, sig, e)
			}
			checkOpen(t, b[i:])
		}
	}
}

func TestOpenOfChangedBytes(t *testing.T) {
	for _, b := range [][]byte{
		wantSeal(list(), nil), wantSeal(number(5), []byte{1, 128}), wantSeal(list(octets(1), null()), randomBytes(2, 130)), wantSeal(algorithm(11), []byte{0}),
	} {
		for _, other := range changedBytes(b) {
			checkOpen(t, other)
		}
	}
}

func TestOpenOfChangedElements(t *testing.T) {
	opened := 0
	open := func(whole api.Node) {
		b := encode(whole)
		checkOpen(t, b)
		if _, _, _, e := spki.Open(b); e == api.OK {
			opened++
		}
	}
	for _, n := range []api.Node{list(), number(5), list(octets(1), list(null(), oid(7)))} {
		whole := list(n, algorithm(11), bits(0, []byte{1, 128}))
		for _, once := range changedWithin(whole) {
			open(once)
			for _, twice := range changed(once) {
				open(twice)
			}
		}
	}
	if opened < 100 {
		t.Error("too few were opened:", opened)
	}
}

// P14.4

func TestNodeAndReadAreInverse(t *testing.T) {
	for _, k := range keys() {
		n, e := spki.Node(k)
		if e != api.OK {
			t.Fatal(k, e)
		}
		read, e := spki.Read(n)
		if e != api.OK || !sameKey(read, k) {
			t.Fatal(k, read, e)
		}
		again, e := spki.Node(read)
		if e != api.OK || !sameNode(again, n) {
			t.Fatal(k, n, again, e)
		}
		checkRead(t, n)
	}
}

// An element that was written and read as bytes is that of the key still.
func TestReadOfWrittenElements(t *testing.T) {
	for _, k := range keys() {
		n, _ := spki.Node(k)
		b, e := tlv.Write(n)
		if e != api.OK {
			t.Fatal(k, e)
		}
		n, _ = tlv.Read(b)
		if read, e := spki.Read(n); e != api.OK || !sameKey(read, k) {
			t.Fatal(k, read, e)
		}
	}
}

func TestOneElementOneKey(t *testing.T) {
	base := modulusOf(6, least)
	pool := []api.Key{{N: base, E: 3}, {N: slices.Clone(base), E: 3}, {N: append([]byte{1}, base...), E: 3}, {N: slices.Concat(base, []byte{1}), E: 3}}
	for _, exponent := range exponents() {
		pool = append(pool, api.Key{N: base, E: exponent})
	}
	for i := range base {
		for bit := range 8 {
			pool = append(pool, api.Key{N: with(base, i, base[i]^1<<bit), E: 3})
		}
	}
	for _, k := range keys()[:40] {
		pool = append(pool, k)
	}
	pool = slices.DeleteFunc(pool, func(k api.Key) bool { return !isKey(k) })
	var nodes []api.Node
	for _, k := range pool {
		n, e := spki.Node(k)
		if e != api.OK {
			t.Fatal(k, e)
		}
		nodes = append(nodes, n)
	}
	for i, a := range pool {
		for j, b := range pool {
			if sameKey(a, b) != sameNode(nodes[i], nodes[j]) {
				t.Fatal(a, b)
			}
		}
	}
}

func TestSealAndOpenAreInverse(t *testing.T) {
	for _, one := range elements() {
		for _, s := range signatures() {
			b, e := spki.Seal(one, s)
			if e != api.OK {
				t.Fatal(one, s, e)
			}
			n, said, sig, e := spki.Open(b)
			if e != api.OK || !sameNode(n, one) || !bytes.Equal(sig, s) {
				t.Fatal(one, s, n, sig, e)
			}
			if written, e := tlv.Write(n); e != api.OK || !bytes.Equal(written, said) {
				t.Fatal(one, said, written, e)
			}
			if again, e := spki.Seal(n, sig); e != api.OK || !bytes.Equal(again, b) {
				t.Fatal(b, again, e)
			}
		}
	}
}

// What is sealed may be sealed again, and each seal is opened by itself.
func TestSealWithinSeal(t *testing.T) {
	n := number(5)
	for i := range byte(30) { // the first one has a depth of 3
		b, e := spki.Seal(n, []byte{i})
		if e != api.OK {
			t.Fatal(i, e)
		}
		inner, _, sig, e := spki.Open(b)
		if e != api.OK || !sameNode(inner, n) || !bytes.Equal(sig, []byte{i}) {
			t.Fatal(i, inner, sig, e)
		}
		n, _ = tlv.Read(b)
	}
	checkNotSealed(t, n, nil, api.ErrDeep)
}

// R3 and R4

// withRoom returns a copy with memory behind the last byte.
func withRoom(b []byte) []byte {
	return slices.Grow(slices.Clone(b), 16)
}

// wipe changes all of the memory, also what is behind the last byte.
func wipe(b []byte) {
	b = b[:cap(b)]
	for i := range b {
		b[i] ^= 85
	}
}

func wipeNode(n api.Node) {
	wipe(n.Body)
	for _, kid := range n.Kids {
		wipeNode(kid)
	}
	kids := n.Kids[:cap(n.Kids)]
	for i := range kids {
		kids[i] = api.Node{Tag: 77}
	}
}

func TestNodeAndReadKeepTheirArguments(t *testing.T) {
	for _, k := range keys() {
		a := api.Key{N: withRoom(k.N), E: k.E}
		n, _ := spki.Node(a)
		kept := cloneNode(n)
		read, _ := spki.Read(n)
		if !sameNode(n, kept) {
			t.Fatal("Read changed its argument", n, kept)
		}
		wipe(read.N)
		if !sameNode(n, kept) {
			t.Fatal("what was read shares memory with the element", n, kept)
		}
		read, _ = spki.Read(n)
		again, _ := spki.Node(a)
		wipeNode(n)
		if !sameKey(read, k) || !sameKey(a, k) {
			t.Fatal("a key shares memory with an element", k, read, a)
		}
		if !sameNode(again, kept) {
			t.Fatal("two elements share memory", again, kept)
		}
		spki.Name(a)
		if behind := a.N[:len(a.N)+1][len(a.N)]; !sameKey(a, k) || behind != 0 {
			t.Fatal("the key was changed", k, a)
		}
		wipe(a.N)
		if !sameNode(again, kept) {
			t.Fatal("an element shares memory with the key", again, kept)
		}
	}
}

func TestSealKeepsItsArguments(t *testing.T) {
	for _, one := range elements() {
		for _, s := range signatures() {
			n, sig := cloneNode(one), withRoom(s)
			b, _ := spki.Seal(n, sig)
			kept := bytes.Clone(b)
			again, _ := spki.Seal(n, sig)
			if behind := sig[:len(sig)+1][len(sig)]; !sameNode(n, one) || !bytes.Equal(sig, s) || behind != 0 {
				t.Fatal("Seal changed its arguments", one, s, n, sig)
			}
			wipe(again)
			if !sameNode(n, one) || !bytes.Equal(sig, s) || !bytes.Equal(b, kept) {
				t.Fatal("the bytes share memory", one, s, n, sig)
			}
			wipeNode(n)
			wipe(sig)
			if !bytes.Equal(b, kept) {
				t.Fatal("the bytes share memory with the arguments", one, s)
			}
		}
	}
}

func TestOpenKeepsItsArgument(t *testing.T) {
	for _, one := range elements() {
		for _, s := range signatures() {
			b := withRoom(wantSeal(one, s))
			kept := bytes.Clone(b)
			n, said, sig, _ := spki.Open(b)
			again, saidAgain, sigAgain, _ := spki.Open(b)
			check := func(what string, n api.Node, said, sig []byte) {
				t.Helper()
				if n.Tag >= 0 && !sameNode(n, one) || said != nil && !bytes.Equal(said, encode(one)) || sig != nil && !bytes.Equal(sig, s) {
					t.Fatal(what, one, s, n, said, sig)
				}
			}
			wipe(b)
			check("a result shares memory with the argument", n, said, sig)
			wipe(b)
			wipe(sig)
			check("the signature shares memory", n, said, nil)
			wipe(said)
			check("what is signed shares memory with the element", n, nil, nil)
			wipeNode(n)
			check("two results share memory", again, saidAgain, sigAgain)
			wipeNode(again)
			check("the element shares memory", api.Node{Tag: -1}, saidAgain, sigAgain)
			if !bytes.Equal(b, kept) || b[:len(b)+1][len(b)] != 0 {
				t.Fatal("the argument was changed", b, kept)
			}
		}
	}
}

// Calls that fail leave nothing behind that a later call could observe.
func TestCallsAreIndependent(t *testing.T) {
	k := api.Key{N: modulusOf(1, 100), E: 3}
	sealed := wantSeal(number(5), []byte{1})
	for range 100 {
		spki.Read(list())
		spki.Node(api.Key{})
		spki.Open([]byte{48, 0})
		spki.Seal(nest(40), nil)
		if n, e := spki.Node(k); e != api.OK || !sameNode(n, wantNode(k)) {
			t.Fatal(n, e)
		}
		if got, e := spki.Read(wantNode(k)); e != api.OK || !sameKey(got, k) {
			t.Fatal(got, e)
		}
		checkOpen(t, sealed)
	}
}

// The parts of the elements are those of scalar.
func TestPartsAreThoseOfScalar(t *testing.T) {
	for _, k := range keys() {
		n, e := spki.Node(k)
		inner, written := tlv.Write(list(scalar.Big(k.N), scalar.Int(uint64(k.E))))
		id, isOid := scalar.Oid([]uint32{1, 2, 840, 113549, 1, 1, 1})
		all, isBits := scalar.Bits(inner, 8*len(inner))
		if e != api.OK || written != api.OK || isOid != api.OK || isBits != api.OK || !sameNode(n, list(list(id, null()), all)) {
			t.Fatal(k, n, e)
		}
	}
	id, _ := scalar.Oid([]uint32{1, 2, 840, 113549, 1, 1, 11})
	if !sameNode(list(id, null()), algorithm(11)) {
		t.Error(id)
	}
}
