package cert_test

import (
	"bytes"
	"crypto/sha256"
	"encoding/hex"
	"math"
	"math/big"
	"math/rand"
	"net/netip"
	"reflect"
	"slices"
	"strings"
	"sync"
	"time"

	"lanyard/api"
	"lanyard/res"
	"lanyard/rsa"
	"lanyard/spki"
)

const (
	firstTime = -631152000 // the beginning of 1950
	lastTime  = 7258118399 // the end of 2199
	longTime  = 2524608000 // the beginning of 2050
)

// bytesOf returns the bytes of hexadecimal digits.
func bytesOf(digits string) []byte {
	b, e := hex.DecodeString(digits)
	if e != nil {
		panic(e)
	}
	return b
}

// spans returns those of the addresses of texts, each two of which are the ends of one.
func spans(ends ...string) []api.Span {
	var l []api.Span
	for pair := range slices.Chunk(ends, 2) {
		lo, hi := netip.MustParseAddr(pair[0]), netip.MustParseAddr(pair[1])
		s := api.Span{V6: lo.Is6()}
		copy(s.Lo[:], lo.AsSlice())
		copy(s.Hi[:], hi.AsSlice())
		l = append(l, s)
	}
	return l
}

func of(spans []api.Span, ases ...api.Range) api.Res {
	return api.Res{Spans: spans, Ases: ases}
}

// all are the resources that contain every address and every number.
func all() api.Res {
	return of(spans("0.0.0.0", "255.255.255.255", "::", "ffff:ffff:ffff:ffff:ffff:ffff:ffff:ffff"), api.Range{Lo: 0, Hi: math.MaxUint32})
}

// many are resources with so many spans and ranges, all of them apart.
func many(spans, ranges int) api.Res {
	var r api.Res
	for i := range spans {
		address := [16]byte{32, 1, byte(i >> 8), byte(i), 15: 1}
		r.Spans = append(r.Spans, api.Span{V6: true, Lo: address, Hi: address})
	}
	for i := range uint32(ranges) {
		r.Ases = append(r.Ases, api.Range{Lo: 1<<31 + 2*i, Hi: 1<<31 + 2*i})
	}
	return r
}

// signer is a key with its secret.
type signer struct {
	key    api.Key
	secret *big.Int
}

// signers have moduli of the least size, of others that are small enough for quick tests, and of the greatest one.
var signers = sync.OnceValue(func() []signer {
	return []signer{newSigner(1, 64, 65537), newSigner(2, 62, 3), newSigner(3, 65, 17), newSigner(4, 62, math.MaxUint32), newSigner(5, 512, 65537)}
})

// newSigner returns one whose modulus has size bytes: it is the product of eight primes of size bits each.
func newSigner(seed int64, size int, exponent uint32) signer {
	r := rand.New(rand.NewSource(seed))
	modulus, order := big.NewInt(1), big.NewInt(1)
	for range 8 { // of that many bits, no two are equal
		p := prime(r, size, exponent)
		modulus.Mul(modulus, p)
		order.Mul(order, new(big.Int).Sub(p, big.NewInt(1)))
	}
	secret := new(big.Int).ModInverse(new(big.Int).SetUint64(uint64(exponent)), order)
	return signer{api.Key{N: modulus.Bytes(), E: exponent}, secret}
}

// prime returns one whose upper four bits are 1, so that the product of eight has all their bits, and that has a secret for the exponent.
func prime(r *rand.Rand, size int, exponent uint32) *big.Int {
	one := big.NewInt(1)
	for {
		p := new(big.Int).Rand(r, new(big.Int).Lsh(one, uint(size)))
		for bit := size - 4; bit < size; bit++ {
			p.SetBit(p, bit, 1)
		}
		p.SetBit(p, 0, 1)
		common := new(big.Int).GCD(nil, nil, new(big.Int).Sub(p, one), new(big.Int).SetUint64(uint64(exponent)))
		if common.Cmp(one) == 0 && p.ProbablyPrime(10) {
			return p
		}
	}
}

func (s signer) sign(said []byte) []byte {
	size := len(s.key.N)
	hash := sha256.Sum256(said)
	frame := slices.Concat([]byte{0, 1}, bytes.Repeat([]byte{255}, size-54), bytesOf("003031300d060960864801650304020105000420"), hash[:])
	sig := new(big.Int).Exp(new(big.Int).SetBytes(frame), s.secret, new(big.Int).SetBytes(s.key.N))
	return sig.FillBytes(make([]byte, size))
}

// seal signs any element.
func (s signer) seal(n api.Node) []byte {
	return sealed(n, s.sign(encode(n)))
}

func (s signer) make(c api.Cert) []byte {
	return s.seal(wantNode(c))
}

func sealed(n api.Node, sig []byte) []byte {
	return encode(list(n, algorithm(11), bits(sig)))
}

func list(kids ...api.Node) api.Node {
	return api.Node{Tag: 48, Kids: kids}
}

func number(b ...byte) api.Node {
	return api.Node{Tag: 2, Body: b}
}

func boolean(b ...byte) api.Node {
	return api.Node{Tag: 1, Body: b}
}

func text(s string) api.Node {
	return api.Node{Tag: 22, Body: []byte(s)}
}

func bits(b []byte) api.Node {
	return api.Node{Tag: 3, Body: append([]byte{0}, b...)}
}

// algorithm has the object identifier 1, 2, 840, 113549, 1, 1 and a last number.
func algorithm(last byte) api.Node {
	return list(api.Node{Tag: 6, Body: []byte{42, 134, 72, 134, 247, 13, 1, 1, last}}, api.Node{Tag: 5})
}

// encode takes the Body and the Kids of any element, whatever its Tag is.
func encode(n api.Node) []byte {
	b := slices.Clone(n.Body)
	for _, kid := range n.Kids {
		b = append(b, encode(kid)...)
	}
	head := []byte{byte(n.Tag), 130, byte(len(b) >> 8), byte(len(b))}
	switch {
	case len(b) < 128:
		head = []byte{byte(n.Tag), byte(len(b))}
	case len(b) < 256:
		head = []byte{byte(n.Tag), 129, byte(len(b))}
	}
	return append(head, b...)
}

func sameNode(a, b api.Node) bool {
	return a.Tag == b.Tag && bytes.Equal(a.Body, b.Body) && slices.EqualFunc(a.Kids, b.Kids, sameNode)
}

func cloneNode(n api.Node) api.Node {
	n.Body, n.Kids = bytes.Clone(n.Body), slices.Clone(n.Kids)
	for i, kid := range n.Kids {
		n.Kids[i] = cloneNode(kid)
	}
	return n
}

func sameRes(a, b api.Res) bool {
	return a.Inherit == b.Inherit && slices.Equal(a.Spans, b.Spans) && slices.Equal(a.Ases, b.Ases)
}

func sameCert(a, b api.Cert) bool {
	lists := bytes.Equal(a.Key.N, b.Key.N) && sameRes(a.Res, b.Res)
	a.Key.N, b.Key.N, a.Res, b.Res = nil, nil, api.Res{}, api.Res{}
	return lists && reflect.DeepEqual(a, b)
}

func isZero(c api.Cert) bool {
	return sameCert(c, api.Cert{})
}

// cloneCert leaves memory behind the last elements of the lists.
func cloneCert(c api.Cert) api.Cert {
	c.Key.N = slices.Grow(slices.Clone(c.Key.N), 8)
	c.Res.Spans = slices.Grow(slices.Clone(c.Res.Spans), 2)
	c.Res.Ases = slices.Grow(slices.Clone(c.Res.Ases), 2)
	return c
}

// but returns another certificate, which change has changed.
func but(c api.Cert, change func(*api.Cert)) api.Cert {
	c = cloneCert(c)
	change(&c)
	return c
}

func isText(s string) bool {
	return len(s) <= 200 && !strings.ContainsFunc(s, func(r rune) bool { return r < ' ' || r > '~' })
}

// wantTime returns the element of a point in time from 1950 to 2199.
func wantTime(s int64) (api.Node, bool) {
	switch {
	case s < firstTime || s > lastTime:
		return api.Node{}, false
	case s < longTime:
		return api.Node{Tag: 23, Body: []byte(time.Unix(s, 0).UTC().Format("060102150405Z"))}, true
	}
	return api.Node{Tag: 24, Body: []byte(time.Unix(s, 0).UTC().Format("20060102150405Z"))}, true
}

// wantRight follows the definition of a valid certificate, word by word.
func wantRight(c api.Cert) bool {
	_, isFrom := wantTime(c.From)
	_, isTo := wantTime(c.To)
	switch {
	case c.Issuer == "", c.Subject == "", !isText(c.Issuer), !isText(c.Subject):
		return false
	case !isFrom, !isTo, c.From > c.To:
		return false
	case !rsa.Right(c.Key):
		return false
	case !res.Right(c.Res):
		return false
	case !isText(c.Repo), !isText(c.Crl):
		return false
	case c.CA && c.Repo == "", !c.CA && c.Repo != "":
		return false
	}
	return true
}

// wantNumber returns the element of the shortest two's complement bytes of n.
func wantNumber(n uint32) api.Node {
	b := new(big.Int).SetUint64(uint64(n)).Bytes()
	if len(b) == 0 || b[0] > 127 {
		b = append([]byte{0}, b...)
	}
	return number(b...)
}

// wantNode follows the promise about the element of a valid certificate. For any other one it returns an element that is like this.
func wantNode(c api.Cert) api.Node {
	from, _ := wantTime(c.From)
	to, _ := wantTime(c.To)
	key, _ := spki.Node(c.Key)
	resources, _ := res.Node(c.Res)
	isCA := boolean(0)
	if c.CA {
		isCA = boolean(255)
	}
	return list(wantNumber(c.Serial), text(c.Issuer), list(from, to), text(c.Subject), key, isCA, resources, list(text(c.Repo), text(c.Crl)))
}

// reader keeps whether every part so far was right.
type reader struct{ ok bool }

func (r *reader) demand(is bool) {
	r.ok = r.ok && is
}

// pair returns the two elements within n.
func (r *reader) pair(n api.Node) (a, b api.Node) {
	if n.Tag != 48 || len(n.Body) != 0 || len(n.Kids) != 2 {
		r.ok = false
		return api.Node{}, api.Node{}
	}
	return n.Kids[0], n.Kids[1]
}

func (r *reader) number(n api.Node) uint32 {
	value := new(big.Int).SetBytes(n.Body)
	r.demand(value.BitLen() <= 32 && sameNode(wantNumber(uint32(value.Uint64())), n))
	return uint32(value.Uint64())
}

func (r *reader) text(n api.Node) string {
	r.demand(n.Tag == 22 && len(n.Kids) == 0 && isText(string(n.Body)))
	return string(n.Body)
}

func (r *reader) boolean(n api.Node) bool {
	r.demand(n.Tag == 1 && len(n.Kids) == 0 && len(n.Body) == 1 && (n.Body[0] == 0 || n.Body[0] == 255))
	return len(n.Body) == 1 && n.Body[0] == 255
}

func (r *reader) time(n api.Node) int64 {
	digits := string(n.Body)
	if n.Tag == 23 && digits >= "5" {
		digits = "19" + digits
	} else if n.Tag == 23 {
		digits = "20" + digits
	}
	at, e := time.Parse("20060102150405Z", digits)
	want, ok := wantTime(at.Unix())
	r.demand(e == nil && ok && sameNode(want, n))
	return at.Unix()
}

// wantCert checks every part of an element, instead of encoding again what it has read.
func wantCert(n api.Node) (api.Cert, bool) {
	if n.Tag != 48 || len(n.Body) != 0 || len(n.Kids) != 8 {
		return api.Cert{}, false
	}
	r := reader{ok: true}
	from, to := r.pair(n.Kids[2])
	repo, crl := r.pair(n.Kids[7])
	key, isKey := spki.Read(n.Kids[4])
	resources, isRes := res.Read(n.Kids[6])
	c := api.Cert{
		Serial: r.number(n.Kids[0]), Issuer: r.text(n.Kids[1]), From: r.time(from), To: r.time(to), Subject: r.text(n.Kids[3]),
		Key: key, CA: r.boolean(n.Kids[5]), Res: resources, Repo: r.text(repo), Crl: r.text(crl),
	}
	r.demand(isKey == api.OK && isRes == api.OK)
	return c, r.ok && c.Issuer != "" && c.Subject != "" && c.From <= c.To && c.CA == (c.Repo != "")
}

// changed returns elements that differ from n itself in one thing, each in its own memory.
func changed(n api.Node) []api.Node {
	var l []api.Node
	change := func(f func(*api.Node)) {
		other := cloneNode(n)
		f(&other)
		l = append(l, other)
	}
	for _, tag := range []int{0, 1, 2, 3, 4, 5, 6, 16, 22, 23, 24, 48, 49, 160, n.Tag ^ 32} {
		change(func(n *api.Node) { n.Tag = tag })
	}
	for _, b := range []byte{0, 1, 31, 32, 48, 126, 127, 128, 255} {
		change(func(n *api.Node) { n.Body = append(n.Body, b) })
		change(func(n *api.Node) { n.Body = append([]byte{b}, n.Body...) })
	}
	change(func(n *api.Node) { n.Body = nil })
	for i := range n.Body {
		change(func(n *api.Node) { n.Body = slices.Delete(n.Body, i, i+1) })
		for _, more := range []byte{1, 10, 127, 128, 129, 254, 255} {
			change(func(n *api.Node) { n.Body[i] += more })
		}
	}
	for _, kid := range []api.Node{{Tag: 5}, list(), number(3), text(""), text("a"), {Tag: 23, Body: []byte("260101000000Z")}} {
		change(func(n *api.Node) { n.Kids = append(n.Kids, kid) })
		change(func(n *api.Node) { n.Kids = append([]api.Node{kid}, n.Kids...) })
	}
	for i := range n.Kids {
		change(func(n *api.Node) { n.Kids = slices.Delete(n.Kids, i, i+1) })
		change(func(n *api.Node) { n.Kids = n.Kids[:i] })
		change(func(n *api.Node) { n.Kids[i], n.Kids[0] = n.Kids[0], n.Kids[i] })
		change(func(n *api.Node) { n.Kids = slices.Insert(n.Kids, i, cloneNode(n.Kids[i])) })
	}
	return l
}

// changedWithin returns elements that differ from n in one thing, in n itself or in an element within it.
func changedWithin(n api.Node) []api.Node {
	l := changed(n)
	for i, kid := range n.Kids {
		for _, other := range changedWithin(kid) {
			whole := cloneNode(n)
			whole.Kids[i] = other
			l = append(l, whole)
		}
	}
	return l
}

// withByte returns b with another byte at i.
func withByte(b []byte, i int, value byte) []byte {
	b = slices.Clone(b)
	b[i] = value
	return b
}
