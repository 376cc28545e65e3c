package scalar_test

import (
	"bytes"
	"encoding/asn1"
	"math"
	"math/big"
	"math/rand"
	"slices"
	"strings"
	"testing"
	"time"

	"lanyard/api"
	"lanyard/scalar"
	"lanyard/tlv"
)

const (
	firstSecond = -631152000 // 1950, 1, 1, 0, 0, 0
	firstLong   = 2524608000 // 2050, 1, 1, 0, 0, 0
	lastSecond  = 7258118399 // 2199, 12, 31, 23, 59, 59
)

func element(tag int, body ...byte) api.Node { return api.Node{Tag: tag, Body: body} }

func textElement(tag int, body string) api.Node { return api.Node{Tag: tag, Body: []byte(body)} }

func concat(parts ...[]byte) []byte { return bytes.Join(parts, nil) }

// same takes nil and empty lists as equal. It looks at no Kids of Kids: no result of this package has any.
func same(a, b api.Node) bool {
	return a.Tag == b.Tag && bytes.Equal(a.Body, b.Body) && len(a.Kids) == 0 && len(b.Kids) == 0
}

func isElement(t *testing.T, name string, n api.Node, e api.Errno, want api.Node) {
	t.Helper()
	if e != api.OK || !same(n, want) {
		t.Errorf("%s is %v and %v, want %v", name, n, e, want)
	}
}

func isNoElement(t *testing.T, name string, n api.Node, e api.Errno) {
	t.Helper()
	if e != api.ErrArg || !same(n, api.Node{}) {
		t.Errorf("%s is %v and %v, want ErrArg", name, n, e)
	}
}

// foreign returns the element that the Go library makes of a value.
func foreign(t *testing.T, value any, params string) api.Node {
	t.Helper()
	b, err := asn1.MarshalWithParams(value, params)
	if err != nil {
		t.Fatal(err)
	}
	n, e := tlv.Read(b)
	if e != api.OK {
		t.Fatal(e)
	}
	return n
}

// bodiesUpTo returns all byte strings of at most size bytes among values.
func bodiesUpTo(size int, values []byte) [][]byte {
	all, last := [][]byte{nil}, [][]byte{nil}
	for range size {
		var longer [][]byte
		for _, b := range last {
			for _, v := range values {
				longer = append(longer, concat(b, []byte{v}))
			}
		}
		all, last = append(all, longer...), longer
	}
	return all
}

func everyByte() []byte {
	l := make([]byte, 256)
	for i := range l {
		l[i] = byte(i)
	}
	return l
}

// A reader decodes an element, and encodes the value again. It fails the test if there is a value beside an error.
type reader struct {
	name   string
	bodies map[int][]string // bodies that have a value, by their tags
	again  func(t *testing.T, n api.Node) (api.Node, api.Errno)
}

func readers() []reader {
	return []reader{
		{"Uint", map[int][]string{2: {"\x00", "\x05", "\x00\x80", "\x00\xff\xff\xff\xff\xff\xff\xff\xff"}}, again(scalar.Uint, isZero, always(scalar.Int))},
		{"Great", map[int][]string{2: {"\x00", "\x05", "\x00\x80", "\x01\x00\x00\x00\x00\x00\x00\x00\x00"}}, again(scalar.Great, isEmpty, always(scalar.Big))},
		{"Arcs", map[int][]string{6: {"\x00", "\x2a\x86\x48", "\x8f\xff\xff\xff\x70"}}, again(scalar.Arcs, isEmpty, scalar.Oid)},
		{"Of", map[int][]string{3: {"\x00", "\x05\xa0", "\x00\x01\x02"}}, again(bitsOf, isNoBits, bitsElement)},
		{"True", map[int][]string{1: {"\x00", "\xff"}}, again(scalar.True, isZero, always(scalar.Bool))},
		{"Words", map[int][]string{22: {"", "a", "some words"}}, again(scalar.Words, isZero, scalar.Text)},
		{"When", map[int][]string{23: {"700101000000Z", "491231235959Z"}, 24: {"20500101000000Z", "21991231235959Z"}}, again(scalar.When, isZero, scalar.Time)},
	}
}

func again[T any](decode func(api.Node) (T, api.Errno), isNone func(T) bool, encode func(T) (api.Node, api.Errno)) func(*testing.T, api.Node) (api.Node, api.Errno) {
	return func(t *testing.T, n api.Node) (api.Node, api.Errno) {
		t.Helper()
		value, e := decode(n)
		if e == api.OK {
			return encode(value)
		}
		if !isNone(value) {
			t.Errorf("beside %v, there is %v of %v", e, value, n)
		}
		return api.Node{}, e
	}
}

func always[T any](encode func(T) api.Node) func(T) (api.Node, api.Errno) {
	return func(value T) (api.Node, api.Errno) { return encode(value), api.OK }
}

func isZero[T comparable](value T) bool {
	var zero T
	return value == zero
}

func isEmpty[T any](l []T) bool { return len(l) == 0 }

// manyBits are the two results of Of as one.
type manyBits struct {
	b    []byte
	many int
}

func bitsOf(n api.Node) (manyBits, api.Errno) {
	b, many, e := scalar.Of(n)
	return manyBits{b, many}, e
}

func bitsElement(m manyBits) (api.Node, api.Errno) { return scalar.Bits(m.b, m.many) }

func isNoBits(m manyBits) bool { return len(m.b) == 0 && m.many == 0 }

func isForm(t *testing.T, r reader, n api.Node) {
	t.Helper()
	if _, e := r.again(t, n); e != api.ErrForm {
		t.Errorf("%s(%v) is %v, want ErrForm", r.name, n, e)
	}
}

// eachBody visits the elements that a reader takes.
func (r reader) eachBody(visit func(n api.Node)) {
	for tag, bodies := range r.bodies {
		for _, body := range bodies {
			visit(textElement(tag, body))
		}
	}
}

// All decoding functions

func TestReadersTakeTheirElements(t *testing.T) {
	for _, r := range readers() {
		r.eachBody(func(n api.Node) {
			got, e := r.again(t, n)
			isElement(t, r.name, got, e, n)
			n.Kids = []api.Node{}
			got, e = r.again(t, n)
			isElement(t, r.name+" with an empty list of Kids", got, e, n)
		})
	}
}

func TestReadersRefuseOtherTags(t *testing.T) {
	for _, r := range readers() {
		r.eachBody(func(n api.Node) {
			right, body := n.Tag, n.Body
			wrong := []int{
				math.MinInt, math.MaxInt, -right, ^right, right | 32, right | 64, right | 128,
				right + 256, right - 256, right + 1<<32, right - 1<<32, right + 1<<40,
			}
			for tag := -2; tag < 300; tag++ {
				wrong = append(wrong, tag)
			}
			for _, tag := range wrong {
				if tag != right {
					isForm(t, r, element(tag, body...))
				}
			}
		})
	}
}

func TestReadersRefuseKids(t *testing.T) {
	endless := make([]api.Node, 1)
	endless[0] = api.Node{Tag: 48, Kids: endless}
	for _, r := range readers() {
		r.eachBody(func(n api.Node) {
			for _, kids := range [][]api.Node{{{}}, {element(5)}, {n}, {n, n}, endless} {
				isForm(t, r, api.Node{Tag: n.Tag, Body: n.Body, Kids: kids})
				isForm(t, r, api.Node{Tag: n.Tag, Kids: kids})
			}
		})
	}
}

func TestReadersRefuseNothing(t *testing.T) {
	for _, r := range readers() {
		isForm(t, r, api.Node{})
		for _, tag := range []int{1, 2, 3, 6, 23, 24} { // 22 is a text, which may be empty
			isForm(t, r, element(tag))
		}
	}
}

// P5.1

type knownInt struct {
	n    uint64
	body []byte
}

func knownInts() []knownInt {
	l := []knownInt{
		{0, []byte{0}}, {1, []byte{1}}, {5, []byte{5}}, {127, []byte{127}}, {128, []byte{0, 128}}, {129, []byte{0, 129}},
		{255, []byte{0, 255}}, {256, []byte{1, 0}}, {257, []byte{1, 1}}, {32767, []byte{127, 255}}, {32768, []byte{0, 128, 0}},
		{65535, []byte{0, 255, 255}}, {65536, []byte{1, 0, 0}}, {65537, []byte{1, 0, 1}}, {1<<32 - 1, []byte{0, 255, 255, 255, 255}},
		{1<<63 - 1, []byte{127, 255, 255, 255, 255, 255, 255, 255}}, {1 << 63, []byte{0, 128, 0, 0, 0, 0, 0, 0, 0}},
		{math.MaxUint64, []byte{0, 255, 255, 255, 255, 255, 255, 255, 255}},
	}
	for size := 1; size <= 7; size++ {
		zeros := make([]byte, size)
		l = append(l,
			knownInt{1<<(8*size) - 1, concat([]byte{0}, bytes.Repeat([]byte{255}, size))},
			knownInt{1 << (8 * size), concat([]byte{1}, zeros)},
			knownInt{1<<(8*size-1) - 1, concat([]byte{127}, bytes.Repeat([]byte{255}, size-1))},
			knownInt{1 << (8*size - 1), concat([]byte{0, 128}, zeros[1:])},
		)
	}
	return l
}

func isInt(t *testing.T, n uint64, body []byte) {
	t.Helper()
	isElement(t, "Int", scalar.Int(n), api.OK, element(2, body...))
	if got, e := scalar.Uint(element(2, body...)); e != api.OK || got != n {
		t.Errorf("Uint(%v) = %d, %v, want %d", body, got, e, n)
	}
}

func isBig(t *testing.T, digits, body []byte) {
	t.Helper()
	for _, zeros := range []int{0, 1, 2, 9, 300} {
		b := concat(make([]byte, zeros), digits)
		isElement(t, "Big", scalar.Big(b), api.OK, element(2, body...))
	}
	if got, e := scalar.Great(element(2, body...)); e != api.OK || !bytes.Equal(got, digits) {
		t.Errorf("Great(%v) = %v, %v, want %v", body, got, e, digits)
	}
}

func TestIntegers(t *testing.T) {
	for _, k := range knownInts() {
		isInt(t, k.n, k.body)
		isBig(t, new(big.Int).SetUint64(k.n).Bytes(), k.body)
	}
}

func TestGreatIntegers(t *testing.T) {
	isBig(t, nil, []byte{0})
	isBig(t, []byte{1, 0, 0, 0, 0, 0, 0, 0, 0}, []byte{1, 0, 0, 0, 0, 0, 0, 0, 0})
	isBig(t, []byte{128, 0, 0, 0, 0, 0, 0, 0, 0}, []byte{0, 128, 0, 0, 0, 0, 0, 0, 0, 0})
	for _, size := range []int{2, 9, 64, 256, 512, 513, 70000} {
		for _, first := range []byte{1, 2, 126, 127, 128, 129, 254, 255} {
			digits := concat([]byte{first}, make([]byte, size-1))
			if first < 128 {
				isBig(t, digits, digits)
			} else {
				isBig(t, digits, concat([]byte{0}, digits))
			}
		}
	}
}

func TestIntegersAreThoseOfTheGoLibrary(t *testing.T) {
	r := rand.New(rand.NewSource(1))
	for range 3000 {
		b := make([]byte, r.Intn(20))
		r.Read(b)
		number := new(big.Int).SetBytes(b)
		want := foreign(t, number, "")
		isElement(t, "Big", scalar.Big(b), api.OK, want)
		isBig(t, number.Bytes(), want.Body)
		if number.IsUint64() {
			isInt(t, number.Uint64(), want.Body)
		} else if n, e := scalar.Uint(want); e != api.ErrForm || n != 0 {
			t.Errorf("Uint(%v) = %d, %v, want ErrForm", want, n, e)
		}
	}
}

func TestNumbersThatAreTooLargeForUint(t *testing.T) {
	for _, body := range [][]byte{
		{1, 0, 0, 0, 0, 0, 0, 0, 0}, {1, 0, 0, 0, 0, 0, 0, 0, 5}, {127, 255, 255, 255, 255, 255, 255, 255, 255},
		{0, 128, 0, 0, 0, 0, 0, 0, 0, 0}, {0, 255, 255, 255, 255, 255, 255, 255, 255, 255}, {1, 0, 0, 0, 0, 0, 0, 0, 0, 0},
		append([]byte{1}, make([]byte, 15)...), append([]byte{1}, make([]byte, 70000)...),
	} {
		if n, e := scalar.Uint(element(2, body...)); e != api.ErrForm || n != 0 {
			t.Errorf("Uint of %d bytes = %d, %v, want ErrForm", len(body), n, e)
		}
		if _, e := scalar.Great(element(2, body...)); e != api.OK {
			t.Errorf("Great of %d bytes: %v", len(body), e)
		}
	}
}

// isIntBody tells whether a number that is not negative is written like that, with as few bytes as possible.
func isIntBody(b []byte) bool {
	return len(b) > 0 && b[0] < 128 && (b[0] > 0 || len(b) == 1 || b[1] >= 128)
}

func checkIntBody(t *testing.T, body []byte) {
	t.Helper()
	n := element(2, body...)
	want, digits, e := uint64(0), []byte(nil), api.ErrForm
	if isIntBody(body) {
		number := new(big.Int).SetBytes(body)
		want, digits, e = number.Uint64(), number.Bytes(), api.OK
	}
	if got, gotE := scalar.Uint(n); gotE != e || got != want {
		t.Fatalf("Uint(%v) = %d, %v, want %d, %v", body, got, gotE, want, e)
	}
	if got, gotE := scalar.Great(n); gotE != e || !bytes.Equal(got, digits) {
		t.Fatalf("Great(%v) = %v, %v, want %v, %v", body, got, gotE, digits, e)
	}
}

func TestEveryShortIntegerBody(t *testing.T) {
	for _, body := range bodiesUpTo(2, everyByte()) {
		checkIntBody(t, body)
	}
	for _, body := range bodiesUpTo(5, []byte{0, 1, 127, 128, 255}) {
		checkIntBody(t, body)
	}
}

func TestIntegersInOtherForms(t *testing.T) {
	for _, body := range [][]byte{
		{}, {0, 0}, {0, 1}, {0, 5}, {0, 127}, {0, 127, 255}, {0, 0, 0}, {0, 0, 128}, {0, 0, 1}, {128}, {255}, {128, 0}, {255, 255}, {255, 127},
		{0, 0, 255, 255, 255, 255, 255, 255, 255, 255}, {255, 255, 255, 255, 255, 255, 255, 255}, {0, 127, 255, 255, 255, 255, 255, 255, 255},
		append([]byte{0, 127}, make([]byte, 600)...), append([]byte{128}, make([]byte, 600)...), make([]byte, 600),
	} {
		if n, e := scalar.Uint(element(2, body...)); e != api.ErrForm || n != 0 {
			t.Errorf("Uint(%v) = %d, %v, want ErrForm", body, n, e)
		}
		if b, e := scalar.Great(element(2, body...)); e != api.ErrForm || len(b) != 0 {
			t.Errorf("Great(%v) = %v, %v, want ErrForm", body, b, e)
		}
	}
}

// P5.2

type knownOid struct {
	arcs []uint32
	body []byte
}

func knownOids() []knownOid {
	return []knownOid{
		{[]uint32{1, 2, 840}, []byte{42, 134, 72}},
		{[]uint32{1, 2, 840, 113549, 1, 1, 1}, []byte{0x2a, 0x86, 0x48, 0x86, 0xf7, 0x0d, 1, 1, 1}},
		{[]uint32{1, 2, 840, 113549, 1, 1, 11}, []byte{0x2a, 0x86, 0x48, 0x86, 0xf7, 0x0d, 1, 1, 11}},
		{[]uint32{2, 16, 840, 1, 101, 3, 4, 2, 1}, []byte{0x60, 0x86, 0x48, 1, 0x65, 3, 4, 2, 1}},
		{[]uint32{2, 5, 4, 3}, []byte{0x55, 4, 3}},
		{[]uint32{2, 999, 3}, []byte{0x88, 0x37, 3}},
		{[]uint32{0, 0}, []byte{0}}, {[]uint32{0, 39}, []byte{39}}, {[]uint32{1, 0}, []byte{40}}, {[]uint32{1, 39}, []byte{79}},
		{[]uint32{2, 0}, []byte{80}}, {[]uint32{2, 39}, []byte{119}}, {[]uint32{2, 40}, []byte{120}}, {[]uint32{2, 47}, []byte{127}},
		{[]uint32{2, 48}, []byte{129, 0}}, {[]uint32{2, 49}, []byte{129, 1}},
		{[]uint32{2, 4294967199}, []byte{143, 255, 255, 255, 111}}, {[]uint32{2, 4294967200}, []byte{143, 255, 255, 255, 112}},
		{[]uint32{2, 4294967200, 4294967295}, []byte{143, 255, 255, 255, 112, 143, 255, 255, 255, 127}},
		{[]uint32{1, 2, 0}, []byte{42, 0}}, {[]uint32{1, 2, 1}, []byte{42, 1}}, {[]uint32{0, 0, 0, 0}, []byte{0, 0, 0}},
		{[]uint32{1, 2, 127}, []byte{42, 127}}, {[]uint32{1, 2, 128}, []byte{42, 129, 0}}, {[]uint32{1, 2, 255}, []byte{42, 129, 127}},
		{[]uint32{1, 2, 16383}, []byte{42, 255, 127}}, {[]uint32{1, 2, 16384}, []byte{42, 129, 128, 0}},
		{[]uint32{1, 2, 2097151}, []byte{42, 255, 255, 127}}, {[]uint32{1, 2, 2097152}, []byte{42, 129, 128, 128, 0}},
		{[]uint32{1, 2, 268435455}, []byte{42, 255, 255, 255, 127}}, {[]uint32{1, 2, 268435456}, []byte{42, 129, 128, 128, 128, 0}},
		{[]uint32{1, 2, 2147483648}, []byte{42, 136, 128, 128, 128, 0}}, {[]uint32{1, 2, 4294967295}, []byte{42, 143, 255, 255, 255, 127}},
		{append([]uint32{1, 2}, make([]uint32, 18)...), append([]byte{42}, make([]byte, 18)...)},
		{append([]uint32{2}, make([]uint32, 18)...), append([]byte{80}, make([]byte, 17)...)},
		{append([]uint32{0, 1}, slices.Repeat([]uint32{4294967295}, 18)...), append([]byte{1}, bytes.Repeat([]byte{143, 255, 255, 255, 127}, 18)...)},
	}
}

func isOid(t *testing.T, arcs []uint32, body []byte) {
	t.Helper()
	n, e := scalar.Oid(arcs)
	isElement(t, "Oid", n, e, element(6, body...))
	if got, e := scalar.Arcs(element(6, body...)); e != api.OK || !slices.Equal(got, arcs) {
		t.Errorf("Arcs(%v) = %v, %v, want %v", body, got, e, arcs)
	}
}

func TestObjectIdentifiers(t *testing.T) {
	for _, k := range knownOids() {
		isOid(t, k.arcs, k.body)
	}
}

func TestEveryRootAndSecondNumber(t *testing.T) {
	for root := range uint32(3) {
		for second := range uint32(40) {
			isOid(t, []uint32{root, second}, []byte{byte(40*root + second)})
			isOid(t, []uint32{root, second, 5, 128}, []byte{byte(40*root + second), 5, 129, 0})
		}
	}
}

func TestObjectIdentifiersAreThoseOfTheGoLibrary(t *testing.T) {
	r := rand.New(rand.NewSource(2))
	for range 3000 {
		arcs := randomArcs(r)
		library := make(asn1.ObjectIdentifier, len(arcs))
		for i, arc := range arcs {
			library[i] = int(arc)
		}
		isOid(t, arcs, foreign(t, library, "").Body)
	}
}

func randomArcs(r *rand.Rand) []uint32 {
	arcs := []uint32{uint32(r.Intn(3)), uint32(r.Intn(40))}
	if arcs[0] == 2 {
		arcs[1] = min(r.Uint32()>>r.Intn(32), 4294967200)
	}
	for range r.Intn(19) {
		arcs = append(arcs, r.Uint32()>>r.Intn(32))
	}
	return arcs
}

func TestNoObjectIdentifiers(t *testing.T) {
	for _, arcs := range [][]uint32{
		nil, {}, {0}, {1}, {2}, {3}, {4294967295},
		make([]uint32, 21), append([]uint32{1, 2}, make([]uint32, 19)...), make([]uint32, 70000),
		{3, 0}, {3, 39}, {3, 5, 7}, {4, 0}, {4294967295, 0}, {4294967295, 4294967295}, {1 << 31, 1},
		{107374182, 1}, {107374183, 1}, {1<<29 + 1, 1}, // 40 times these, or the first of them and 80, wraps round
		{0, 40}, {1, 40}, {0, 41}, {1, 41}, {0, 80}, {0, 128}, {1, 256}, {0, 4294967200}, {1, 4294967200}, {0, 4294967295}, {1, 4294967295},
		{2, 4294967201}, {2, 4294967215}, {2, 4294967216}, {2, 4294967295}, {2, 4294967201, 1}, {1, 40, 1},
	} {
		n, e := scalar.Oid(arcs)
		isNoElement(t, "Oid", n, e)
	}
}

// plainArcs says what P5.2 says of the Body, by numbers that have room enough.
func plainArcs(body []byte) ([]uint32, bool) {
	var numbers []uint64
	for at := 0; at < len(body); {
		number := uint64(0)
		for start := at; ; at++ {
			if at == len(body) || at-start == 5 || at == start && body[at] == 128 {
				return nil, false
			}
			number = number*128 + uint64(body[at]%128)
			if body[at] < 128 {
				break
			}
		}
		at++
		numbers = append(numbers, number)
	}
	if len(numbers) < 1 || len(numbers) > 19 || numbers[0] > 4294967280 {
		return nil, false
	}
	arcs := []uint32{2, uint32(numbers[0] - 80)}
	if numbers[0] < 80 {
		arcs = []uint32{uint32(numbers[0] / 40), uint32(numbers[0] % 40)}
	}
	for _, number := range numbers[1:] {
		if number > math.MaxUint32 {
			return nil, false
		}
		arcs = append(arcs, uint32(number))
	}
	return arcs, true
}

func checkOidBody(t *testing.T, body []byte) bool {
	t.Helper()
	want, ok := plainArcs(body)
	got, e := scalar.Arcs(element(6, body...))
	if ok != (e == api.OK) || !ok && e != api.ErrForm || !slices.Equal(got, want) {
		t.Fatalf("Arcs(%v) = %v, %v, want %v, %v", body, got, e, want, ok)
	}
	return ok
}

func TestEveryShortOidBody(t *testing.T) {
	for _, body := range bodiesUpTo(2, everyByte()) {
		checkOidBody(t, body)
	}
	for _, body := range bodiesUpTo(5, []byte{0, 39, 40, 79, 80, 127, 128, 129, 255}) {
		checkOidBody(t, body)
	}
	for _, body := range bodiesUpTo(5, []byte{0, 1, 112, 113, 127, 128, 129, 143, 144, 255}) {
		checkOidBody(t, body)
		checkOidBody(t, concat([]byte{42}, body))
	}
}

func TestOidBodiesThatWereChanged(t *testing.T) {
	r := rand.New(rand.NewSource(3))
	taken, refused := 0, 0
	for range 30000 {
		n, e := scalar.Oid(randomArcs(r))
		if e != api.OK {
			t.Fatal(e)
		}
		for range r.Intn(3) {
			n.Body = changed(r, n.Body)
		}
		if checkOidBody(t, n.Body) {
			taken++
		} else {
			refused++
		}
	}
	if taken < 1000 || refused < 1000 {
		t.Errorf("%d bodies were taken, and %d refused", taken, refused)
	}
}

// changed returns a copy with one byte changed, added or removed, or cut off somewhere.
func changed(r *rand.Rand, b []byte) []byte {
	special := []byte{0, 1, 5, 31, 32, 126, 127, 128, 129, 255}
	v := special[r.Intn(len(special))]
	if len(b) == 0 {
		return []byte{v}
	}
	at := r.Intn(len(b))
	switch r.Intn(5) {
	case 0:
		return concat(b[:at], []byte{v}, b[at:])
	case 1:
		return concat(b[:at], b[at+1:])
	case 2:
		return concat(b[:at])
	case 3:
		return concat(b[:at], []byte{b[at] ^ 1<<r.Intn(8)}, b[at+1:])
	}
	return concat(b[:at], []byte{v}, b[at+1:])
}

func TestOidBodiesInOtherForms(t *testing.T) {
	for _, body := range [][]byte{
		{}, {128}, {129}, {255}, {128, 1}, {128, 42}, {128, 128, 42}, {42, 134}, {42, 134, 72, 134}, {42, 134, 200}, {42, 128}, {42, 128, 1}, {42, 128, 0},
		{42, 128, 134, 72}, {42, 1, 128, 1}, {42, 1, 128}, {128, 0},
		{143, 255, 255, 255, 113}, {143, 255, 255, 255, 127}, {144, 128, 128, 128, 0}, {255, 255, 255, 255, 127},
		{42, 144, 128, 128, 128, 0}, {42, 144, 128, 128, 128, 5}, {42, 255, 255, 255, 255, 127}, {42, 129, 128, 128, 128, 128, 0},
		{42, 129, 128, 128, 128, 128, 128, 128, 128, 128, 128, 5}, {129, 128, 128, 128, 128, 128, 128, 128, 128, 128, 42},
		{144, 128, 128, 128, 42}, {42, 144, 128, 128, 128, 42}, {42, 130, 128, 128, 128, 128, 128, 128, 128, 128, 1},
		make([]byte, 20), append([]byte{42}, make([]byte, 19)...), bytes.Repeat([]byte{42, 129, 0}, 10), make([]byte, 70000), bytes.Repeat([]byte{255}, 70000),
		append([]byte{42}, bytes.Repeat([]byte{128}, 70000)...),
	} {
		if l, e := scalar.Arcs(element(6, body...)); e != api.ErrForm || len(l) != 0 {
			t.Errorf("Arcs(%v) = %v, %v, want ErrForm", body, l, e)
		}
	}
}

// P5.3

func isBits(t *testing.T, b []byte, many int, body []byte) {
	t.Helper()
	n, e := scalar.Bits(b, many)
	isElement(t, "Bits", n, e, element(3, body...))
	if got, gotMany, e := scalar.Of(element(3, body...)); e != api.OK || gotMany != many || !bytes.Equal(got, b) {
		t.Errorf("Of(%v) = %v, %d, %v, want %v, %d", body, got, gotMany, e, b, many)
	}
}

func TestBits(t *testing.T) {
	isBits(t, []byte{160}, 3, []byte{5, 160})
	isBits(t, nil, 0, []byte{0})
	isBits(t, []byte{0}, 1, []byte{7, 0})
	isBits(t, []byte{128}, 1, []byte{7, 128})
	isBits(t, []byte{254}, 7, []byte{1, 254})
	isBits(t, []byte{255}, 8, []byte{0, 255})
	isBits(t, []byte{0}, 8, []byte{0, 0})
	isBits(t, []byte{255, 128}, 9, []byte{7, 255, 128})
	isBits(t, []byte{1, 0}, 9, []byte{7, 1, 0})
	isBits(t, []byte{1, 2}, 15, []byte{1, 1, 2})
	isBits(t, []byte{1, 3}, 16, []byte{0, 1, 3})
	isBits(t, []byte{0, 0, 0}, 17, []byte{7, 0, 0, 0})
	long := bytes.Repeat([]byte{255}, 70000)
	isBits(t, long, 560000, concat([]byte{0}, long))
	long[69999] = 128
	isBits(t, long, 559993, concat([]byte{7}, long))
}

func checkBits(t *testing.T, b []byte, many int) {
	t.Helper()
	unused := 8*len(b) - many
	ok := many >= 0 && unused >= 0 && unused < 8
	if ok && unused > 0 {
		ok = b[len(b)-1]%(1<<unused) == 0
	}
	if ok {
		isBits(t, b, many, concat([]byte{byte(unused)}, b))
		return
	}
	n, e := scalar.Bits(b, many)
	isNoElement(t, "Bits", n, e)
}

func TestEveryNumberOfBits(t *testing.T) {
	for _, b := range bodiesUpTo(1, everyByte()) {
		for many := -10; many <= 20; many++ {
			checkBits(t, b, many)
		}
	}
	for _, b := range bodiesUpTo(3, []byte{0, 1, 2, 4, 8, 16, 32, 64, 127, 128, 192, 255}) {
		for many := -1; many <= 33; many++ {
			checkBits(t, b, many)
		}
	}
}

func TestBitsAreThoseOfTheGoLibrary(t *testing.T) {
	r := rand.New(rand.NewSource(4))
	for range 2000 {
		b := make([]byte, r.Intn(40))
		r.Read(b)
		many := 8 * len(b)
		if len(b) > 0 {
			unused := r.Intn(8)
			many -= unused
			b[len(b)-1] &= 255 << unused
		}
		isBits(t, b, many, foreign(t, asn1.BitString{Bytes: b, BitLength: many}, "").Body)
	}
}

func TestNoBits(t *testing.T) {
	numbers := []int{math.MinInt, math.MinInt + 1, -1 << 32, -9, -8, -7, -1, 25, 32, 1 << 31, 1 << 32, 1<<32 + 24, math.MaxInt - 7, math.MaxInt - 6, math.MaxInt - 1, math.MaxInt}
	for shift := 33; shift < 63; shift++ {
		numbers = append(numbers, 1<<shift, 1<<shift+24, -1<<shift, -1<<shift+24)
	}
	for _, many := range numbers {
		for _, b := range [][]byte{nil, {}, {0}, {0, 0, 0}, make([]byte, 1000)} {
			n, e := scalar.Bits(b, many)
			isNoElement(t, "Bits", n, e)
		}
	}
	for _, c := range []struct {
		b    []byte
		many int
	}{
		{nil, 1}, {nil, 8}, {nil, 7}, {[]byte{0}, 0}, {[]byte{0}, 9}, {[]byte{0, 0}, 8}, {[]byte{0, 0}, 7}, {[]byte{0, 0}, 17}, {[]byte{255}, 7}, {[]byte{161}, 3},
		{[]byte{16}, 3}, {[]byte{64}, 1}, {[]byte{1}, 1}, {[]byte{255, 1}, 15}, {[]byte{0, 64}, 9},
	} {
		n, e := scalar.Bits(c.b, c.many)
		isNoElement(t, "Bits", n, e)
	}
}

func checkBitsBody(t *testing.T, body []byte) {
	t.Helper()
	ok := len(body) > 0 && body[0] < 8 && (body[0] == 0 || len(body) > 1)
	if ok && len(body) > 1 {
		ok = body[len(body)-1]%(1<<body[0]) == 0 || body[0] == 0
	}
	b, many, e := scalar.Of(element(3, body...))
	switch {
	case !ok && (e != api.ErrForm || many != 0 || len(b) != 0):
		t.Fatalf("Of(%v) = %v, %d, %v, want ErrForm", body, b, many, e)
	case ok && (e != api.OK || !bytes.Equal(b, body[1:]) || many != 8*len(b)-int(body[0])):
		t.Fatalf("Of(%v) = %v, %d, %v", body, b, many, e)
	}
}

func TestEveryShortBitsBody(t *testing.T) {
	for _, body := range bodiesUpTo(2, everyByte()) {
		checkBitsBody(t, body)
	}
	for _, body := range bodiesUpTo(4, []byte{0, 1, 2, 3, 4, 5, 6, 7, 8, 9, 16, 32, 64, 128, 192, 255}) {
		checkBitsBody(t, body)
	}
}

func TestBitsBodiesInOtherForms(t *testing.T) {
	for _, body := range [][]byte{
		{}, {1}, {7}, {8}, {9}, {128}, {255}, {8, 0}, {8, 0, 0}, {16, 0, 0, 0}, {255, 0}, {1, 1}, {7, 64}, {5, 161}, {5, 16}, {4, 8}, {6, 32}, {3, 0, 4},
		append([]byte{8}, make([]byte, 600)...), append([]byte{255}, make([]byte, 600)...),
	} {
		if b, many, e := scalar.Of(element(3, body...)); e != api.ErrForm || many != 0 || len(b) != 0 {
			t.Errorf("Of(%v) = %v, %d, %v, want ErrForm", body, b, many, e)
		}
	}
}

// P5.4

func TestBooleans(t *testing.T) {
	isElement(t, "Bool(true)", scalar.Bool(true), api.OK, element(1, 255))
	isElement(t, "Bool(false)", scalar.Bool(false), api.OK, element(1, 0))
	isElement(t, "that of the Go library", foreign(t, true, ""), api.OK, scalar.Bool(true))
	isElement(t, "that of the Go library", foreign(t, false, ""), api.OK, scalar.Bool(false))
}

func TestEveryBooleanBody(t *testing.T) {
	for _, body := range bodiesUpTo(2, everyByte()) {
		want, wantE := false, api.ErrForm
		switch string(body) {
		case "\x00":
			wantE = api.OK
		case "\xff":
			want, wantE = true, api.OK
		}
		if is, e := scalar.True(element(1, body...)); is != want || e != wantE {
			t.Errorf("True(%v) = %v, %v, want %v, %v", body, is, e, want, wantE)
		}
	}
	for _, body := range [][]byte{{255, 255, 255}, {0, 0, 0}, make([]byte, 70000)} {
		if is, e := scalar.True(element(1, body...)); is || e != api.ErrForm {
			t.Errorf("True of %d bytes = %v, %v, want ErrForm", len(body), is, e)
		}
	}
}

// P5.5

func isText(t *testing.T, s string) {
	t.Helper()
	n, e := scalar.Text(s)
	isElement(t, "Text", n, e, textElement(22, s))
	if got, e := scalar.Words(textElement(22, s)); e != api.OK || got != s {
		t.Errorf("Words of %q = %q, %v", s, got, e)
	}
}

func isNoText(t *testing.T, s string) {
	t.Helper()
	n, e := scalar.Text(s)
	isNoElement(t, "Text", n, e)
	if got, e := scalar.Words(textElement(22, s)); e != api.ErrForm || got != "" {
		t.Errorf("Words of %q = %q, %v, want ErrForm", s, got, e)
	}
}

func TestEveryByteOfATextAtEveryPlace(t *testing.T) {
	for _, size := range []int{1, 2, 5, 200} {
		for place := range size {
			for v := range 256 {
				text := bytes.Repeat([]byte{'m'}, size)
				text[place] = byte(v)
				if v >= 32 && v <= 126 {
					isText(t, string(text))
				} else {
					isNoText(t, string(text))
				}
			}
		}
	}
}

func TestEveryLengthOfAText(t *testing.T) {
	for size := range 201 {
		isText(t, strings.Repeat("~", size))
	}
	for size := 201; size < 520; size++ {
		isNoText(t, strings.Repeat("~", size))
	}
	isNoText(t, strings.Repeat(" ", 1<<16))
	isNoText(t, strings.Repeat(" ", 1<<16+5))
	isNoText(t, strings.Repeat(" ", 1<<20))
}

func TestTextsOfManyKinds(t *testing.T) {
	for _, s := range []string{"", " ", "~", "rsync://host/module/a.cer", "a b", "   ", "\"quoted\\\"", "%d%s", strings.Repeat("rsync://", 25)} {
		isText(t, s)
		isElement(t, "that of the Go library", foreign(t, s, "ia5"), api.OK, textElement(22, s))
	}
	// A text of 200 characters, or of printable ones, may have other bytes than these.
	for _, s := range []string{"é", "e\u0301", "\x7f", "\x1f", "\t", "a\n", "\r", "\x00", "a\x00", "\xff", "\x80", "日本", strings.Repeat("é", 100), strings.Repeat("é", 200)} {
		isNoText(t, s)
	}
}

// P5.6

func isTime(t *testing.T, s int64, tag int, text string) {
	t.Helper()
	n, e := scalar.Time(s)
	isElement(t, "Time", n, e, textElement(tag, text))
	if got, e := scalar.When(textElement(tag, text)); e != api.OK || got != s {
		t.Errorf("When of %d, %q = %d, %v, want %d", tag, text, got, e, s)
	}
}

func isNoTime(t *testing.T, tag int, text string) {
	t.Helper()
	if s, e := scalar.When(textElement(tag, text)); e != api.ErrForm || s != 0 {
		t.Errorf("When of %d, %q = %d, %v, want ErrForm", tag, text, s, e)
	}
}

func TestTimes(t *testing.T) {
	isTime(t, 0, 23, "700101000000Z")
	isTime(t, -1, 23, "691231235959Z")
	isTime(t, 1, 23, "700101000001Z")
	isTime(t, 951868800, 23, "000301000000Z")
	isTime(t, firstSecond, 23, "500101000000Z")
	isTime(t, firstSecond+1, 23, "500101000001Z")
	isTime(t, firstLong-1, 23, "491231235959Z")
	isTime(t, firstLong, 24, "20500101000000Z")
	isTime(t, firstLong+1, 24, "20500101000001Z")
	isTime(t, lastSecond-1, 24, "21991231235958Z")
	isTime(t, lastSecond, 24, "21991231235959Z")
}

func TestTimesAreThoseOfTheGoLibrary(t *testing.T) {
	r := rand.New(rand.NewSource(5))
	counts := map[int]int{}
	for range 5000 {
		s := firstSecond + r.Int63n(lastSecond-firstSecond+1)
		want := foreign(t, time.Unix(s, 0).UTC(), "")
		isTime(t, s, want.Tag, string(want.Body))
		counts[want.Tag]++
	}
	if counts[23] < 1000 || counts[24] < 1000 || len(counts) != 2 {
		t.Errorf("the tags were %v", counts)
	}
}

func TestNoTimes(t *testing.T) {
	for _, s := range []int64{math.MinInt64, math.MinInt64 + 1, -1 << 40, firstSecond - 86400, firstSecond - 1, lastSecond + 1, lastSecond + 86400, 1 << 40, math.MaxInt64 - 1, math.MaxInt64} {
		n, e := scalar.Time(s)
		isNoElement(t, "Time", n, e)
	}
}

// Each time has one of the two tags.
func TestTimesWithTheOtherTag(t *testing.T) {
	for _, text := range []string{"000301000000Z", "700101000000Z", "500101000000Z", "491231235959Z"} {
		isNoTime(t, 24, text)
	}
	for _, text := range []string{"20000301000000Z", "19700101000000Z", "19500101000000Z", "20491231235959Z"} {
		isNoTime(t, 23, text)
		isNoTime(t, 24, text) // before 2050, a year has two digits
	}
	for _, text := range []string{"20500101000000Z", "21991231235959Z", "21000301000000Z"} {
		isNoTime(t, 23, text)
		isNoTime(t, 24, text[2:])
	}
}

func TestTimesInOtherForms(t *testing.T) {
	for _, text := range []string{
		"", "Z", "000301000000", "000301000000z", "0003010000Z", "000301000000Z ", " 000301000000Z", "000301000000+0000", "000230000000Z", "001301000000Z",
		"000101240000Z", "000101006000Z", "000101000060Z", "00030100000aZ", "+00301000000Z", "000301000000.0Z", "000301000000Z\x00", "00030100000\xffZ",
	} {
		for _, tag := range []int{23, 24} {
			isNoTime(t, tag, text)
			isNoTime(t, tag, "20"+text)
			isNoTime(t, tag, "21"+text)
		}
	}
	for _, text := range []string{"19491231235959Z", "22000101000000Z", "00000101000000Z", "99991231235959Z", "21000229000000Z", "205001010000Z", "20500101000000.0Z", "20500101000000"} {
		isNoTime(t, 23, text)
		isNoTime(t, 24, text)
	}
	isNoTime(t, 23, strings.Repeat("0", 1<<20))
	isNoTime(t, 24, strings.Repeat("0", 1<<20))
}

// P5.7

func TestDecodingAnEncodedValue(t *testing.T) {
	r := rand.New(rand.NewSource(6))
	for range 5000 {
		b := make([]byte, r.Intn(12))
		r.Read(b)
		clear(b[:r.Intn(len(b)+1)])
		if got, e := scalar.Great(scalar.Big(b)); e != api.OK || !bytes.Equal(got, bytes.TrimLeft(b, "\x00")) {
			t.Errorf("Great(Big(%v)) = %v, %v", b, got, e)
		}
		number := r.Uint64() >> r.Intn(64)
		if got, e := scalar.Uint(scalar.Int(number)); e != api.OK || got != number {
			t.Errorf("Uint(Int(%d)) = %d, %v", number, got, e)
		}
		arcs := randomArcs(r)
		n, e := scalar.Oid(arcs)
		if got, gotE := scalar.Arcs(n); e != api.OK || gotE != api.OK || !slices.Equal(got, arcs) {
			t.Errorf("Arcs(Oid(%v)) = %v, %v, %v", arcs, got, e, gotE)
		}
		n, e = scalar.Bits(b, 8*len(b))
		if got, many, gotE := scalar.Of(n); e != api.OK || gotE != api.OK || many != 8*len(b) || !bytes.Equal(got, b) {
			t.Errorf("Of(Bits(%v)) = %v, %d, %v, %v", b, got, many, e, gotE)
		}
		s := firstSecond + r.Int63n(lastSecond-firstSecond+1)
		n, e = scalar.Time(s)
		if got, gotE := scalar.When(n); e != api.OK || gotE != api.OK || got != s {
			t.Errorf("When(Time(%d)) = %d, %v, %v", s, got, e, gotE)
		}
	}
	for _, is := range []bool{false, true} {
		if got, e := scalar.True(scalar.Bool(is)); e != api.OK || got != is {
			t.Errorf("True(Bool(%v)) = %v, %v", is, got, e)
		}
	}
}

func TestEncodingADecodedValue(t *testing.T) {
	r := rand.New(rand.NewSource(7))
	for _, reader := range readers() {
		taken, refused := 0, 0
		for range 2000 {
			reader.eachBody(func(n api.Node) {
				for range r.Intn(4) {
					n.Body = changed(r, n.Body)
				}
				if r.Intn(20) == 0 {
					n.Tag = r.Intn(30)
				}
				got, e := reader.again(t, n)
				if e == api.OK {
					isElement(t, reader.name, got, e, n)
					taken++
				} else {
					isForm(t, reader, n)
					refused++
				}
			})
		}
		if taken < 500 || refused < 500 {
			t.Errorf("%s took %d elements, and refused %d", reader.name, taken, refused)
		}
	}
}

func TestElementsAreWrittenAndReadByTlv(t *testing.T) {
	for _, r := range readers() {
		r.eachBody(func(n api.Node) {
			encoded, e := r.again(t, n)
			if e != api.OK {
				t.Fatal(r.name, e)
			}
			b, e := tlv.Write(encoded)
			if e != api.OK {
				t.Fatal(r.name, e)
			}
			back, e := tlv.Read(b)
			isElement(t, r.name, back, e, n)
		})
	}
}

// R3 and R4

// room returns bytes that lie in a longer slice, so that what is written behind them is seen in it.
func room(b ...byte) (part, whole []byte) {
	whole = append(slices.Clone(b), bytes.Repeat([]byte{77}, 40)...)
	return whole[:len(b)], whole
}

func TestBytesAreNeitherChangedNorKept(t *testing.T) {
	for name, encode := range map[string]func(b []byte) []byte{
		"Big":   func(b []byte) []byte { return scalar.Big(b).Body },
		"Bits":  func(b []byte) []byte { n, _ := scalar.Bits(b, 8*len(b)); return n.Body },
		"Great": func(b []byte) []byte { got, _ := scalar.Great(element(2, b...)); return got },
		"Of":    func(b []byte) []byte { got, _, _ := scalar.Of(element(3, b...)); return got },
	} {
		for _, b := range [][]byte{{0, 200, 3}, {0, 0, 5, 6}, {1, 2, 4}, {200, 3}, {0}, {0, 128}, {127, 1}} {
			part, whole := room(b...)
			before := slices.Clone(whole)
			got := encode(part)
			want := slices.Clone(got)
			_ = append(got, 1, 2, 3)
			if !bytes.Equal(whole, before) {
				t.Errorf("%s of %v left %v", name, b, whole)
			}
			clear(whole)
			if !bytes.Equal(got, want) {
				t.Errorf("%s of %v became %v", name, b, got)
			}
			for i := range got {
				got[i] = 99
			}
			if !bytes.Equal(whole, make([]byte, len(whole))) {
				t.Errorf("%s of %v shares its result", name, b)
			}
		}
	}
}

func TestListsAreNeitherChangedNorKept(t *testing.T) {
	arcs := make([]uint32, 3, 20)
	copy(arcs, []uint32{1, 2, 840})
	n, _ := scalar.Oid(arcs)
	if !slices.Equal(arcs[:4], []uint32{1, 2, 840, 0}) {
		t.Errorf("Oid left %v", arcs[:4])
	}
	clear(arcs)
	isElement(t, "Oid", n, api.OK, element(6, 42, 134, 72))
	got, _ := scalar.Arcs(n)
	isElement(t, "the argument of Arcs", n, api.OK, element(6, 42, 134, 72))
	clear(n.Body)
	if !slices.Equal(got, []uint32{1, 2, 840}) {
		t.Errorf("Arcs became %v", got)
	}
}

func TestTextsAreNotKept(t *testing.T) {
	n := textElement(22, "words")
	s, _ := scalar.Words(n)
	clear(n.Body)
	if s != "words" {
		t.Errorf("Words became %q", s)
	}
	n = textElement(23, "700101000001Z")
	when, _ := scalar.When(n)
	isElement(t, "the argument of When", n, api.OK, textElement(23, "700101000001Z"))
	if clear(n.Body); when != 1 {
		t.Errorf("When became %d", when)
	}
}

func TestEarlierCallsChangeNothing(t *testing.T) {
	for range 3 {
		for _, n := range []api.Node{scalar.Int(0), scalar.Int(200), scalar.Big(nil), scalar.Bool(true), scalar.Bool(false)} {
			for i := range n.Body {
				n.Body[i] = 99
			}
		}
		isInt(t, 0, []byte{0})
		isInt(t, 200, []byte{0, 200})
		isBig(t, nil, []byte{0})
		isElement(t, "Bool(true)", scalar.Bool(true), api.OK, element(1, 255))
		isElement(t, "Bool(false)", scalar.Bool(false), api.OK, element(1, 0))
		text, _ := scalar.Text("a")
		text.Body[0] = 'b'
		isText(t, "a")
		moment, _ := scalar.Time(0)
		clear(moment.Body)
		isTime(t, 0, 23, "700101000000Z")
		empty, _ := scalar.Bits(nil, 0)
		empty.Body[0] = 9
		isBits(t, nil, 0, []byte{0})
	}
}
