package cert_test

import (
	"bytes"
	"math"
	"slices"
	"strings"
	"testing"

	"lanyard/api"
	"lanyard/cert"
	"lanyard/res"
	"lanyard/rsa"
)

const midTime = 1200000005 // a time at which anchor, child and end are valid

func isCertAnd(t *testing.T, what any, got api.Cert, e api.Errno, want api.Cert, wantE api.Errno) {
	t.Helper()
	if wantE != api.OK {
		want = api.Cert{}
	}
	if e != wantE || !sameCert(got, want) {
		t.Errorf("%v: %+v %d, want %+v %d", what, got, e, want, wantE)
	}
}

// isCheck checks bytes with the issuer anchor, an empty list, and a time at which all is valid.
func isCheck(t *testing.T, what any, b []byte, want api.Cert, wantE api.Errno) {
	t.Helper()
	got, e := cert.Check(b, anchor(), api.Crl{}, midTime)
	isCertAnd(t, what, got, e, want, wantE)
}

// P15.3

func TestCheck(t *testing.T) {
	isCheck(t, "child", signers()[0].make(child()), child(), api.OK)
	isCheck(t, "anchor", signers()[0].make(anchor()), anchor(), api.OK) // which is its own issuer
	got, e := cert.Check(signers()[1].make(end()), child(), api.Crl{}, midTime)
	isCertAnd(t, "end", got, e, but(end(), func(c *api.Cert) { c.Res = child().Res }), api.OK)
}

func TestCheckOfKnownCertificates(t *testing.T) {
	known := knownCerts()
	for _, k := range known {
		got, e := cert.Check(k.whole(), known[0].cert, api.Crl{}, k.cert.From)
		isCertAnd(t, k.cert.Subject, got, e, k.cert, api.OK)
		got, e = cert.Check(k.whole(), known[0].cert, api.Crl{}, k.cert.To+1)
		isCertAnd(t, k.cert.Subject, got, e, k.cert, api.ErrTime)
		b := k.whole()
		b[len(b)-1] ^= 1
		got, e = cert.Check(b, known[0].cert, api.Crl{}, k.cert.From)
		isCertAnd(t, k.cert.Subject, got, e, k.cert, api.ErrSign)
	}
	got, e := cert.Check(known[1].whole(), known[1].cert, api.Crl{}, known[1].cert.From)
	isCertAnd(t, "of another issuer", got, e, api.Cert{}, api.ErrName)
}

// Every valid certificate is accepted, whatever its parts are.
func TestCheckOfValidCertificates(t *testing.T) {
	for i, c := range slices.Concat(valid(), randomCerts(5, 60)) {
		n := wantNode(c)
		if len(encode(n)) > 19000 {
			continue
		}
		s := signers()[i%len(signers())]
		issuer := api.Cert{Subject: c.Issuer, Key: s.key, Res: all()}
		want := c
		if c.Res.Inherit {
			want.Res = all()
		}
		for _, now := range []int64{c.From, c.To} {
			got, e := cert.Check(s.seal(n), issuer, api.Crl{Serials: []uint32{c.Serial + 1, c.Serial - 1}}, now)
			isCertAnd(t, i, got, e, want, api.OK)
		}
	}
}

func TestCheckReturnsTheErrorsOfRead(t *testing.T) {
	right := signers()[0].make(child())
	for i, b := range [][]byte{
		nil, right[:20], right[1:], append(slices.Clone(right), 0), make([]byte, 20001), sealed(nest(32), nil), encode(nest(33)),
		signers()[0].seal(list()), signers()[0].seal(wantNode(but(child(), func(c *api.Cert) { c.Issuer = "" }))),
		signers()[0].make(but(child(), func(c *api.Cert) { c.CA = false })), signers()[0].make(but(child(), func(c *api.Cert) { c.From = c.To + 1 })),
	} {
		_, want := cert.Read(b)
		if want == api.OK {
			t.Fatal("nothing is wrong:", i)
		}
		isCheck(t, i, b, api.Cert{}, want)
		got, e := cert.Check(b, api.Cert{}, api.Crl{Serials: []uint32{77}}, 0)
		isCertAnd(t, i, got, e, api.Cert{}, want)
		got, e = cert.Root(b, signers()[0].key, midTime)
		isCertAnd(t, i, got, e, api.Cert{}, want)
	}
}

func TestCheckOfNames(t *testing.T) {
	for _, issuer := range []string{"Anchor", "anchor ", " anchor", "ancho", "anchors", "child", "x", "~"} {
		b := signers()[0].make(but(child(), func(c *api.Cert) { c.Issuer = issuer }))
		isCheck(t, issuer, b, api.Cert{}, api.ErrName)
	}
	b := signers()[0].make(child())
	for _, subject := range []string{"", "Anchor", "anchor\x00", "child", strings.Repeat("anchor", 1000)} {
		got, e := cert.Check(b, but(anchor(), func(c *api.Cert) { c.Subject = subject }), api.Crl{}, midTime)
		isCertAnd(t, subject, got, e, api.Cert{}, api.ErrName)
	}
	got, e := cert.Check(b, api.Cert{}, api.Crl{}, midTime)
	isCertAnd(t, "the zero issuer", got, e, api.Cert{}, api.ErrName)
	long := strings.Repeat("x", 200)
	got, e = cert.Check(signers()[0].make(but(child(), func(c *api.Cert) { c.Issuer = long })), but(anchor(), func(c *api.Cert) { c.Subject = long }), api.Crl{}, midTime)
	isCertAnd(t, "long", got, e, but(child(), func(c *api.Cert) { c.Issuer = long }), api.OK)
}

func TestCheckOfSignatures(t *testing.T) {
	n, s := wantNode(child()), signers()[0]
	right := s.sign(encode(n))
	isCheck(t, "right", sealed(n, right), child(), api.OK)
	for i := range right {
		for bit := range 8 {
			isCheck(t, i, sealed(n, withByte(right, i, right[i]^1<<bit)), api.Cert{}, api.ErrSign)
		}
	}
	for i, sig := range [][]byte{
		nil, {0}, right[1:], right[:len(right)-1], append([]byte{0}, right...), append(slices.Clone(right), 0), make([]byte, len(right)), s.key.N,
		signers()[1].sign(encode(n)), signers()[2].sign(encode(n)), // by other keys, one of them that of the certificate
		s.sign(sealed(n, right)), s.sign(encode(n)[4:]), s.sign(nil), s.sign(encode(wantNode(anchor()))), // of other bytes
	} {
		isCheck(t, i, sealed(n, sig), api.Cert{}, api.ErrSign)
	}
}

// A signature is that of one certificate alone: any change to what is signed is noticed.
func TestCheckOfChangedCertificates(t *testing.T) {
	right := signers()[0].sign(encode(wantNode(child())))
	valid := 0
	for i, f := range rightChanges() {
		c := but(child(), f)
		c.Issuer = "anchor"
		n := wantNode(c)
		if sameCert(c, child()) || len(encode(n)) > 19000 {
			continue
		}
		valid++
		isCheck(t, i, sealed(n, right), api.Cert{}, api.ErrSign)
	}
	if valid < 20 {
		t.Error("too few were changed:", valid)
	}
}

// No certificate with a changed bit is accepted.
func TestCheckOfChangedBits(t *testing.T) {
	b := signers()[0].make(child())
	for i := range b {
		for bit := range 8 {
			other := withByte(b, i, b[i]^1<<bit)
			_, reading := cert.Read(other)
			got, e := cert.Check(other, anchor(), api.Crl{}, midTime)
			if e == api.OK || !isZero(got) || reading != api.OK && e != reading || reading == api.OK && e != api.ErrSign && e != api.ErrName {
				t.Fatal(i, bit, got, e, reading)
			}
		}
	}
}

func TestCheckOfTimes(t *testing.T) {
	c := child()
	b := signers()[0].make(c)
	for now, want := range map[int64]api.Errno{
		c.From - 1: api.ErrTime, c.From: api.OK, c.From + 1: api.OK, c.To - 1: api.OK, c.To: api.OK, c.To + 1: api.ErrTime,
		0: api.ErrTime, -c.From: api.ErrTime, math.MinInt64: api.ErrTime, math.MaxInt64: api.ErrTime, firstTime - 1: api.ErrTime, lastTime + 1: api.ErrTime,
		c.From + 1<<32: api.ErrTime, c.From - 1<<32: api.ErrTime,
	} {
		got, e := cert.Check(b, anchor(), api.Crl{}, now)
		isCertAnd(t, now, got, e, c, want)
	}
}

// The serial numbers of a list count alone, in any order, and whatever else the list says.
func TestCheckOfRevokedCertificates(t *testing.T) {
	long := make([]uint32, 1000)
	for i := range long {
		long[i] = uint32(1000 + i)
	}
	for _, serial := range []uint32{0, 1, 77, 1 << 31, math.MaxUint32} {
		c := but(child(), func(c *api.Cert) { c.Serial = serial })
		b := signers()[0].make(c)
		for i, l := range [][]uint32{{serial}, {serial, serial}, {5, serial, 3}, {serial, 5}, {5, 3, serial}, append(long, serial), append([]uint32{serial}, long...)} {
			for _, crl := range []api.Crl{{Serials: l}, {Issuer: "other", Number: 9, This: lastTime, Next: firstTime, Serials: l}, {Issuer: "anchor", This: firstTime, Next: lastTime, Serials: l}} {
				got, e := cert.Check(b, anchor(), crl, midTime)
				isCertAnd(t, i, got, e, api.Cert{}, api.ErrGone)
			}
		}
		for i, l := range [][]uint32{nil, {}, {serial + 1, serial - 1}, {serial ^ 1<<31}, {serial ^ 256, serial ^ 1}, long} {
			got, e := cert.Check(b, anchor(), api.Crl{Issuer: "anchor", Number: serial, Serials: l}, midTime)
			isCertAnd(t, i, got, e, c, api.OK)
		}
	}
}

func TestCheckOfResources(t *testing.T) {
	whole := anchor().Res
	for i, c := range []struct {
		r, want api.Res
		e       api.Errno
	}{
		{whole, whole, api.OK},
		{api.Res{Inherit: true}, whole, api.OK},
		{of(spans("10.0.0.0", "10.0.0.0")), of(spans("10.0.0.0", "10.0.0.0")), api.OK},
		{of(nil, api.Range{Lo: 300, Hi: 300}), of(nil, api.Range{Lo: 300, Hi: 300}), api.OK},
		{of(nil, api.Range{Lo: 300, Hi: 301}), api.Res{}, api.ErrOver},
		{of(nil, api.Range{Lo: 0, Hi: 0}), api.Res{}, api.ErrOver},
		{of(spans("10.0.0.0", "11.0.0.0")), api.Res{}, api.ErrOver},
		{of(spans("9.255.255.255", "10.0.0.0"), api.Range{Lo: 1, Hi: 1}), api.Res{}, api.ErrOver},
		{of(spans("10.0.0.0", "10.0.0.1"), api.Range{Lo: 301, Hi: 301}), api.Res{}, api.ErrOver},
		{of(spans("2001:db8::", "2001:db8::1:0")), api.Res{}, api.ErrOver},
		{of(spans("a00::", "a00::")), api.Res{}, api.ErrOver},
		{all(), api.Res{}, api.ErrOver},
	} {
		own := but(child(), func(one *api.Cert) { one.Res = c.r })
		isCheck(t, i, signers()[0].make(own), but(own, func(one *api.Cert) { one.Res = c.want }), c.e)
	}
	// the second of the document's examples of the whole
	eight, nine := of(spans("10.0.0.0", "10.255.255.255")), of(spans("10.0.0.0", "10.127.255.255"))
	own := but(child(), func(c *api.Cert) { c.Res = eight })
	got, e := cert.Check(signers()[0].make(own), but(anchor(), func(c *api.Cert) { c.Res = nine }), api.Crl{}, midTime)
	isCertAnd(t, "10.0.0.0/8 below 10.0.0.0/9", got, e, api.Cert{}, api.ErrOver)
}

// An issuer whose key, or whose resources, are not valid: the error is that of rsa.Verify, or of res.Resolve.
func TestCheckWithWrongIssuers(t *testing.T) {
	for _, c := range []api.Cert{child(), but(child(), func(c *api.Cert) { c.Res = api.Res{Inherit: true} })} {
		b := signers()[0].make(c)
		gone := api.Crl{Serials: []uint32{77}}
		for i, k := range wrongKeys() {
			issuer := but(anchor(), func(c *api.Cert) { c.Key = k })
			for _, now := range []int64{midTime, 0} { // ahead of ErrTime, and of ErrGone
				got, e := cert.Check(b, issuer, gone, now)
				isCertAnd(t, i, got, e, api.Cert{}, api.ErrArg)
			}
			issuer.Subject = "other"
			got, e := cert.Check(b, issuer, gone, midTime)
			isCertAnd(t, i, got, e, api.Cert{}, api.ErrName)
		}
		for i, r := range append(wrongRes(), api.Res{Inherit: true}) {
			issuer := but(anchor(), func(c *api.Cert) { c.Res = r })
			got, e := cert.Check(b, issuer, api.Crl{}, midTime)
			isCertAnd(t, i, got, e, api.Cert{}, api.ErrArg)
			got, e = cert.Check(b, issuer, gone, midTime)
			isCertAnd(t, i, got, e, api.Cert{}, api.ErrGone)
			got, e = cert.Check(b, issuer, gone, 0)
			isCertAnd(t, i, got, e, api.Cert{}, api.ErrTime)
		}
	}
}

// Nothing counts of an issuer but Subject, Key and Res.
func TestCheckWithOtherIssuers(t *testing.T) {
	b := signers()[0].make(child())
	for i, f := range []change{
		func(c *api.Cert) { c.CA, c.Repo, c.Crl = false, "", "" },
		func(c *api.Cert) { c.Serial, c.Issuer = 77, "other" },
		func(c *api.Cert) { c.From, c.To = lastTime, lastTime },
		func(c *api.Cert) { c.From, c.To = 9, 1 },
		func(c *api.Cert) { c.CA, c.Repo = true, "" },
		func(c *api.Cert) { *c = api.Cert{Subject: c.Subject, Key: c.Key, Res: c.Res} },
	} {
		got, e := cert.Check(b, but(anchor(), f), api.Crl{}, midTime)
		isCertAnd(t, i, got, e, child(), api.OK)
	}
}

// Every set of things that are wrong: the first of them is told.
func TestCheckReturnsTheFirstError(t *testing.T) {
	errors := []api.Errno{api.ErrForm, api.ErrName, api.ErrSign, api.ErrTime, api.ErrGone, api.ErrOver}
	for set := range 1 << len(errors) {
		is := func(i int) bool { return set>>i&1 == 1 }
		c, crl, now, want := child(), api.Crl{Serials: []uint32{1, 78}}, int64(midTime), api.OK
		for i := range errors {
			if is(i) && want == api.OK {
				want = errors[i]
			}
		}
		if is(1) {
			c.Issuer = "other"
		}
		if is(3) {
			now = 9
		}
		if is(4) {
			crl.Serials = append(crl.Serials, 77)
		}
		if is(5) {
			c.Res = all()
		}
		b := signers()[0].make(c)
		if is(2) {
			b[len(b)-1] ^= 1
		}
		if is(0) {
			b = append(b, 0)
		}
		got, e := cert.Check(b, anchor(), crl, now)
		isCertAnd(t, set, got, e, c, want)
	}
}

// P15.4

func isRoot(t *testing.T, what any, b []byte, want api.Cert, wantE api.Errno) {
	t.Helper()
	got, e := cert.Root(b, signers()[0].key, midTime)
	isCertAnd(t, what, got, e, want, wantE)
}

func TestRoot(t *testing.T) {
	isRoot(t, "anchor", signers()[0].make(anchor()), anchor(), api.OK)
	for i, s := range signers() {
		c := but(anchor(), func(c *api.Cert) { c.Key = s.key })
		got, e := cert.Root(s.make(c), s.key, midTime)
		isCertAnd(t, i, got, e, c, api.OK)
	}
	known := knownCerts()
	got, e := cert.Root(known[0].whole(), known[0].cert.Key, known[0].cert.To)
	isCertAnd(t, "known", got, e, known[0].cert, api.OK)
	got, e = cert.Root(known[1].whole(), known[0].cert.Key, known[0].cert.To)
	isCertAnd(t, "of another key", got, e, api.Cert{}, api.ErrSign)
	got, e = cert.Root(known[1].whole(), known[1].cert.Key, known[0].cert.To)
	isCertAnd(t, "of another issuer", got, e, api.Cert{}, api.ErrName)
}

// Every valid certificate of a CA that is its own issuer, with resources of its own, is accepted.
func TestRootOfValidCertificates(t *testing.T) {
	accepted := 0
	for i, c := range slices.Concat(valid(), randomCerts(6, 60)) {
		s := signers()[i%len(signers())]
		c.Key, c.Issuer = s.key, c.Subject
		want := api.OK
		if !c.CA {
			want = api.ErrName
		} else if c.Res.Inherit {
			want = api.ErrOver
		} else {
			accepted++
		}
		if len(encode(wantNode(c))) > 19000 {
			continue
		}
		for _, now := range []int64{c.From, c.To} {
			got, e := cert.Root(s.make(c), s.key, now)
			isCertAnd(t, i, got, e, c, want)
		}
	}
	if accepted < 50 {
		t.Error("too few were accepted:", accepted)
	}
}

func TestRootOfKeys(t *testing.T) {
	s, k := signers()[0], signers()[0].key
	b := s.make(anchor())
	others := append(wrongKeys(), signers()[1].key, api.Key{N: k.N, E: 3}, api.Key{N: k.N, E: k.E + 2}, api.Key{N: append([]byte{0}, k.N...), E: k.E}, api.Key{N: k.N[1:], E: k.E}, api.Key{N: append(slices.Clone(k.N), 1), E: k.E})
	for i := range k.N {
		others = append(others, api.Key{N: withByte(k.N, i, k.N[i]^128), E: k.E})
	}
	for i, other := range others {
		got, e := cert.Root(b, other, midTime)
		isCertAnd(t, i, got, e, api.Cert{}, api.ErrSign)
	}
	other := signers()[1] // a certificate of one key that is signed with another one is that of neither
	for i, b := range [][]byte{other.make(anchor()), s.make(but(anchor(), func(c *api.Cert) { c.Key = other.key }))} {
		for _, k := range []api.Key{k, other.key} {
			got, e := cert.Root(b, k, midTime)
			isCertAnd(t, i, got, e, api.Cert{}, api.ErrSign)
		}
	}
}

func TestRootOfNames(t *testing.T) {
	for i, f := range []change{
		func(c *api.Cert) { c.Issuer = "other" },
		func(c *api.Cert) { c.Subject = "Anchor" },
		func(c *api.Cert) { c.Subject = "anchor " },
		func(c *api.Cert) { c.CA, c.Repo = false, "" },
		func(c *api.Cert) { c.CA, c.Repo, c.Issuer = false, "", "other" },
	} {
		isRoot(t, i, signers()[0].make(but(anchor(), f)), api.Cert{}, api.ErrName)
	}
	same := but(anchor(), func(c *api.Cert) { c.Issuer, c.Subject = "x", "x" })
	isRoot(t, "x", signers()[0].make(same), same, api.OK)
}

func TestRootOfSignatures(t *testing.T) {
	n, s := wantNode(anchor()), signers()[0]
	right := s.sign(encode(n))
	for i := range right {
		isRoot(t, i, sealed(n, withByte(right, i, right[i]^1)), api.Cert{}, api.ErrSign)
	}
	for i, sig := range [][]byte{nil, right[1:], append(slices.Clone(right), 0), append([]byte{0}, right...), signers()[1].sign(encode(n)), s.sign(sealed(n, right)), s.sign(nil), s.key.N} {
		isRoot(t, i, sealed(n, sig), api.Cert{}, api.ErrSign)
	}
}

func TestRootOfTimes(t *testing.T) {
	c := anchor()
	b := signers()[0].make(c)
	for now, want := range map[int64]api.Errno{
		c.From - 1: api.ErrTime, c.From: api.OK, c.From + 1: api.OK, c.To - 1: api.OK, c.To: api.OK, c.To + 1: api.ErrTime,
		0: api.ErrTime, math.MinInt64: api.ErrTime, math.MaxInt64: api.ErrTime, c.From + 1<<32: api.ErrTime, c.From - 1<<32: api.ErrTime,
	} {
		got, e := cert.Root(b, signers()[0].key, now)
		isCertAnd(t, now, got, e, c, want)
	}
}

func TestRootOfResources(t *testing.T) {
	for _, r := range []api.Res{all(), many(1, 0), many(0, 1), many(100, 100)} {
		c := but(anchor(), func(c *api.Cert) { c.Res = r })
		isRoot(t, len(r.Spans), signers()[0].make(c), c, api.OK)
	}
	c := but(anchor(), func(c *api.Cert) { c.Res = api.Res{Inherit: true} })
	isRoot(t, "inherit", signers()[0].make(c), api.Cert{}, api.ErrOver)
}

func TestRootReturnsTheFirstError(t *testing.T) {
	errors := []api.Errno{api.ErrForm, api.ErrSign, api.ErrName, api.ErrName, api.ErrSign, api.ErrTime, api.ErrOver}
	for set := range 1 << len(errors) {
		is := func(i int) bool { return set>>i&1 == 1 }
		c, k, now, want := anchor(), signers()[0].key, int64(midTime), api.OK
		for i := range errors {
			if is(i) && want == api.OK {
				want = errors[i]
			}
		}
		if is(1) {
			k = signers()[1].key
		}
		if is(2) {
			c.Issuer = "other"
		}
		if is(3) {
			c.CA, c.Repo = false, ""
		}
		if is(5) {
			now = c.To + 1
		}
		if is(6) {
			c.Res = api.Res{Inherit: true}
		}
		b := signers()[0].make(c)
		if is(4) {
			b[len(b)-1] ^= 1
		}
		if is(0) {
			b = append(b, 0)
		}
		got, e := cert.Root(b, k, now)
		isCertAnd(t, set, got, e, c, want)
	}
}

// P15.5

func TestReadOfMadeCertificates(t *testing.T) {
	for i, c := range slices.Concat(valid(), randomCerts(8, 300)) {
		sig := bytes.Repeat([]byte{byte(i)}, i%100)
		b, e := cert.Make(c, sig)
		if e == api.ErrLarge {
			continue
		}
		got, reading := cert.Read(b)
		if e != api.OK || reading != api.OK || !sameCert(got, c) || !cert.Right(got) {
			t.Fatalf("%+v %+v %d %d", c, got, e, reading)
		}
		if again, e := cert.Make(got, sig); e != api.OK || !bytes.Equal(again, b) {
			t.Fatalf("%+v %v %v %d", c, b, again, e)
		}
	}
}

// few is the number of addresses of each family, and of AS numbers, in a set: bits 0 to few-1 are IPv4 addresses, the next ones IPv6 addresses, and the last ones AS numbers.
const few = 2

// set returns the resources of a set. Between each two of its addresses, and numbers, there is another one.
func set(bits int) api.Res {
	var r api.Res
	for family, v6 := range []bool{false, true} {
		for i := range few {
			if bits>>(family*few+i)&1 == 1 {
				address := [16]byte{10, 0, 1, byte(2 * i)}
				r.Spans = append(r.Spans, api.Span{V6: v6, Lo: address, Hi: address})
			}
		}
	}
	for i := range uint32(few) {
		if bits>>(2*few+i)&1 == 1 {
			r.Ases = append(r.Ases, api.Range{Lo: 2 * i, Hi: 2 * i})
		}
	}
	return r
}

func TestAcceptedCertificatesHaveWhatTheirIssuersHave(t *testing.T) {
	for a := 1; a < 1<<(3*few); a++ {
		c := but(child(), func(c *api.Cert) { c.Res = set(a) })
		b := signers()[0].make(c)
		for issuer := 1; issuer < 1<<(3*few); issuer++ {
			want := api.OK
			if a&^issuer != 0 {
				want = api.ErrOver
			}
			got, e := cert.Check(b, but(anchor(), func(c *api.Cert) { c.Res = set(issuer) }), api.Crl{}, midTime)
			isCertAnd(t, [2]int{a, issuer}, got, e, c, want)
		}
	}
}

// What Check returns may be the issuer of the next one: nothing in a chain has more than what is above it.
func TestChains(t *testing.T) {
	resources := []api.Res{{Inherit: true}, anchor().Res, child().Res, of(spans("10.0.0.0", "10.0.0.9"), api.Range{Lo: 8, Hi: 8}), of(spans("2001:db8::", "2001:db8::1")), all()}
	accepted := 0
	for _, top := range resources {
		root, e := cert.Root(signers()[0].make(but(anchor(), func(c *api.Cert) { c.Res = top })), signers()[0].key, midTime)
		if e != api.OK {
			continue
		}
		for _, middle := range resources {
			second, e := cert.Check(signers()[0].make(but(child(), func(c *api.Cert) { c.Res = middle })), root, api.Crl{}, midTime)
			if e != api.OK {
				continue
			}
			for _, low := range resources {
				third, e := cert.Check(signers()[1].make(but(end(), func(c *api.Cert) { c.Res = low })), second, api.Crl{}, midTime)
				if e != api.OK {
					continue
				}
				accepted++
				for _, above := range []api.Cert{second, root} {
					if got, e := res.Resolve(third.Res, above.Res); e != api.OK || !sameRes(got, third.Res) || third.Res.Inherit || !cert.Right(third) {
						t.Error(top, middle, low, third.Res)
					}
				}
			}
		}
	}
	if accepted < 30 {
		t.Error("too few were accepted:", accepted)
	}
}

func TestAcceptedFromFromToTo(t *testing.T) {
	for _, period := range [][2]int64{{100, 105}, {-3, 0}, {longTime - 2, longTime + 1}, {7, 7}, {firstTime, firstTime + 1}, {lastTime - 1, lastTime}} {
		root := but(anchor(), func(c *api.Cert) { c.From, c.To = period[0], period[1] })
		c := but(child(), func(c *api.Cert) { c.From, c.To = period[0], period[1] })
		rootBytes, b := signers()[0].make(root), signers()[0].make(c)
		for now := period[0] - 9; now <= period[1]+9; now++ {
			want := api.OK
			if now < period[0] || now > period[1] {
				want = api.ErrTime
			}
			got, e := cert.Check(b, root, api.Crl{}, now)
			isCertAnd(t, now, got, e, c, want)
			got, e = cert.Root(rootBytes, root.Key, now)
			isCertAnd(t, now, got, e, root, want)
		}
	}
}

// Whatever is accepted was signed with the key of the issuer.
func TestAcceptedCertificatesAreSigned(t *testing.T) {
	for i, by := range signers() {
		b := by.make(child())
		for j, s := range signers() {
			want := api.OK
			if i != j {
				want = api.ErrSign
			}
			if e := rsa.Verify(s.key, encode(wantNode(child())), by.sign(encode(wantNode(child())))); e != want {
				t.Error(i, j, e)
			}
			got, e := cert.Check(b, but(anchor(), func(c *api.Cert) { c.Key = s.key }), api.Crl{}, midTime)
			isCertAnd(t, [2]int{i, j}, got, e, child(), want)
		}
	}
}

// R3 and R4

// wipe changes all memory of a certificate, also what is behind the last elements of its lists.
func wipe(c api.Cert) {
	wipeBytes(c.Key.N)
	spans, ases := c.Res.Spans[:cap(c.Res.Spans)], c.Res.Ases[:cap(c.Res.Ases)]
	for i := range spans {
		spans[i] = api.Span{V6: true, Lo: [16]byte{9}, Hi: [16]byte{8}}
	}
	for i := range ases {
		ases[i] = api.Range{Lo: 9, Hi: 8}
	}
}

func wipeBytes(b []byte) {
	b = b[:cap(b)]
	for i := range b {
		b[i] ^= 85
	}
}

func wipeNode(n api.Node) {
	wipeBytes(n.Body)
	for _, kid := range n.Kids {
		wipeNode(kid)
	}
	kids := n.Kids[:cap(n.Kids)]
	for i := range kids {
		kids[i] = api.Node{Tag: 77}
	}
}

// isUntouched reports whether c equals want, and nothing was written behind the last elements of its lists, which cloneCert left.
func isUntouched(c, want api.Cert) bool {
	return sameCert(c, want) &&
		c.Key.N[:len(c.Key.N)+1][len(c.Key.N)] == 0 &&
		c.Res.Spans[:len(c.Res.Spans)+1][len(c.Res.Spans)] == api.Span{} &&
		c.Res.Ases[:len(c.Res.Ases)+1][len(c.Res.Ases)] == api.Range{}
}

func TestNodeAndMakeKeepTheirArguments(t *testing.T) {
	for i, one := range valid() {
		c, sig := cloneCert(one), slices.Grow([]byte{1, 2, 3}, 8)
		cert.Right(c)
		n, _ := cert.Node(c)
		again, _ := cert.Node(c)
		b, _ := cert.Make(c, sig)
		kept := bytes.Clone(b)
		other, _ := cert.Make(c, sig)
		if !isUntouched(c, one) || !bytes.Equal(sig[:4], []byte{1, 2, 3, 0}) {
			t.Fatal("the arguments were changed:", i)
		}
		wipeNode(n)
		wipeBytes(other)
		if !isUntouched(c, one) || !bytes.Equal(sig, []byte{1, 2, 3}) || !sameNode(again, wantNode(one)) || !bytes.Equal(b, kept) {
			t.Fatal("a result shares memory:", i)
		}
		wipe(c)
		wipeBytes(sig)
		if !sameNode(again, wantNode(one)) || !bytes.Equal(b, kept) {
			t.Fatal("a result shares memory with an argument:", i)
		}
	}
}

func TestReadKeepsItsArgument(t *testing.T) {
	for i, one := range valid() {
		b := slices.Grow(sealed(wantNode(one), []byte{1}), 8)
		if len(b) > 20000 {
			continue
		}
		kept := bytes.Clone(b)
		got, _ := cert.Read(b)
		again, _ := cert.Read(b)
		wipe(got)
		if !bytes.Equal(b, kept) || b[:len(b)+1][len(b)] != 0 || !sameCert(again, one) {
			t.Fatal("a result shares memory:", i)
		}
		wipeBytes(b)
		if !sameCert(again, one) {
			t.Fatal("a result shares memory with the argument:", i)
		}
	}
}

func TestCheckAndRootKeepTheirArguments(t *testing.T) {
	for _, r := range []api.Res{child().Res, {Inherit: true}, anchor().Res} {
		c := but(child(), func(c *api.Cert) { c.Res = r })
		want := c
		if r.Inherit {
			want.Res = anchor().Res
		}
		b, root, issuer, k := signers()[0].make(c), signers()[0].make(anchor()), cloneCert(anchor()), api.Key{N: bytes.Clone(anchor().Key.N), E: anchor().Key.E}
		keptB, keptRoot := bytes.Clone(b), bytes.Clone(root)
		crl := api.Crl{Serials: []uint32{9, 5, 300, 1}}
		var results []api.Cert
		for range 2 {
			got, e := cert.Check(b, issuer, crl, midTime)
			isCertAnd(t, "Check", got, e, want, api.OK)
			gotRoot, e := cert.Root(root, k, midTime)
			isCertAnd(t, "Root", gotRoot, e, anchor(), api.OK)
			results = append(results, got, gotRoot)
		}
		wipe(results[0])
		wipe(results[1])
		if !isUntouched(issuer, anchor()) || !bytes.Equal(b, keptB) || !bytes.Equal(root, keptRoot) || !slices.Equal(crl.Serials, []uint32{9, 5, 300, 1}) || !bytes.Equal(k.N, anchor().Key.N) {
			t.Fatal("an argument was changed, or shares memory with a result")
		}
		wipe(issuer)
		wipeBytes(b)
		wipeBytes(root)
		wipeBytes(k.N)
		if !sameCert(results[2], want) || !sameCert(results[3], anchor()) {
			t.Fatal("a result shares memory with an argument, or with another result")
		}
	}
}

// The same call returns the same again, also after calls that fail; the conditions are asked in another order each time.
func TestCallsAreIndependent(t *testing.T) {
	b, root := signers()[0].make(child()), signers()[0].make(anchor())
	few := slices.DeleteFunc(wrong(), func(c api.Cert) bool { return len(c.Res.Spans) > 1000 })
	for range 20 {
		for i, c := range few {
			if _, e := cert.Node(c); cert.Right(c) || e != api.ErrArg {
				t.Fatal("valid:", i)
			}
		}
		cert.Check(b, api.Cert{}, api.Crl{}, 0)
		cert.Check(b[1:], anchor(), api.Crl{}, 0)
		cert.Root(b, api.Key{}, 0)
		isCheck(t, "child", b, child(), api.OK)
		isRoot(t, "anchor", root, anchor(), api.OK)
		if !cert.Right(anchor()) || !cert.Right(child()) || !cert.Right(end()) {
			t.Fatal("not valid")
		}
	}
}
