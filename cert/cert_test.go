package cert_test

import (
	"bytes"
	"math"
	"math/rand"
	"slices"
	"strings"
	"testing"

	"lanyard/api"
	"lanyard/cert"
	"lanyard/res"
	"lanyard/rsa"
	"lanyard/scalar"
	"lanyard/spki"
	"lanyard/tlv"
)

// anchor is the certificate of a trust anchor, by its own key.
func anchor() api.Cert {
	return api.Cert{
		Serial: 1, Issuer: "anchor", Subject: "anchor", From: 1000000000, To: 2000000000,
		Key: signers()[0].key, CA: true, Res: of(spans("10.0.0.0", "10.255.255.255", "2001:db8::", "2001:db8::ffff"), api.Range{Lo: 1, Hi: 300}),
		Repo: "rsync://example.net/anchor/", Crl: "rsync://example.net/anchor/c.crl",
	}
}

// child is a certificate below anchor.
func child() api.Cert {
	return api.Cert{
		Serial: 77, Issuer: "anchor", Subject: "child", From: 1100000000, To: 1900000000,
		Key: signers()[1].key, CA: true, Res: of(spans("10.0.0.0", "10.127.255.255"), api.Range{Lo: 7, Hi: 9}),
		Repo: "rsync://example.net/child/", Crl: "rsync://example.net/anchor/c.crl",
	}
}

// end is the certificate of an end entity below child.
func end() api.Cert {
	return api.Cert{
		Serial: 3, Issuer: "child", Subject: "end", From: 1200000000, To: 1200000009,
		Key: signers()[2].key, Res: api.Res{Inherit: true}, Crl: "rsync://example.net/child/c.crl",
	}
}

// change is one of a certificate.
type change func(*api.Cert)

// rightChanges leave a certificate of a CA valid.
func rightChanges() []change {
	l := []change{
		func(c *api.Cert) { c.From = c.To },
		func(c *api.Cert) { c.To = c.From },
		func(c *api.Cert) { c.From, c.To = firstTime, lastTime },
		func(c *api.Cert) { c.From, c.To = firstTime, firstTime },
		func(c *api.Cert) { c.From, c.To = lastTime, lastTime },
		func(c *api.Cert) { c.From, c.To = longTime-1, longTime },
		func(c *api.Cert) { c.From, c.To = -1, 0 },
		func(c *api.Cert) { c.CA, c.Repo = false, "" },
		func(c *api.Cert) { c.CA, c.Repo, c.Crl = false, "", "" },
	}
	for _, serial := range []uint32{0, 1, 127, 128, 255, 256, 32767, 32768, 65535, 1 << 23, 1 << 31, math.MaxUint32} {
		l = append(l, func(c *api.Cert) { c.Serial = serial })
	}
	for _, s := range []string{" ", "~", "a", "A subject", "anchor", strings.Repeat("x", 199), strings.Repeat("~", 200)} {
		l = append(l, func(c *api.Cert) { c.Issuer = s }, func(c *api.Cert) { c.Subject = s }, func(c *api.Cert) { c.Repo = s }, func(c *api.Cert) { c.Crl = s })
	}
	for _, s := range signers() {
		l = append(l, func(c *api.Cert) { c.Key = s.key })
	}
	for _, r := range []api.Res{{Inherit: true}, all(), of(nil, api.Range{Lo: 7, Hi: 7}), of(spans("::", "::")), many(400, 0), many(0, 400), many(400, 400)} {
		l = append(l, func(c *api.Cert) { c.Res = r })
	}
	return append(l, func(c *api.Cert) { c.Crl = "" })
}

// wrongChanges leave no certificate of a CA valid.
func wrongChanges() []change {
	l := []change{
		func(c *api.Cert) { *c = api.Cert{} },
		func(c *api.Cert) { c.Issuer = "" },
		func(c *api.Cert) { c.Subject = "" },
		func(c *api.Cert) { c.From = c.To + 1 },
		func(c *api.Cert) { c.To = c.From - 1 },
		func(c *api.Cert) { c.From, c.To = lastTime, firstTime },
		func(c *api.Cert) { c.CA = false },
		func(c *api.Cert) { c.Repo = "" },
	}
	for _, s := range []int64{firstTime - 1, lastTime + 1, math.MinInt64, math.MaxInt64, math.MinInt64 + 1, -1 << 40, 1 << 40} {
		l = append(l, func(c *api.Cert) { c.From = s }, func(c *api.Cert) { c.To = s }, func(c *api.Cert) { c.From, c.To = s, s })
	}
	for _, s := range []string{"\x00", "\x1f", "\x7f", "\x80", "\xff", "é", "a\n", "\na", "a\x00b", strings.Repeat("x", 201), strings.Repeat("x", 65536)} {
		l = append(l, func(c *api.Cert) { c.Issuer = s }, func(c *api.Cert) { c.Subject = s }, func(c *api.Cert) { c.Repo = s }, func(c *api.Cert) { c.Crl = s })
		l = append(l, func(c *api.Cert) { c.CA, c.Repo, c.Crl = false, "", s })
	}
	for _, k := range wrongKeys() {
		l = append(l, func(c *api.Cert) { c.Key = k })
	}
	for _, r := range wrongRes() {
		l = append(l, func(c *api.Cert) { c.Res = r })
	}
	return l
}

func wrongKeys() []api.Key {
	n := signers()[0].key.N
	return []api.Key{
		{}, {N: n}, {N: n, E: 1}, {N: n, E: 2}, {N: n, E: 65536}, {E: 65537},
		{N: withByte(n, 0, 0), E: 3}, {N: withByte(n, len(n)-1, 2), E: 3}, {N: n[:61], E: 3}, {N: slices.Concat([]byte{0}, n), E: 3},
		{N: bytes.Repeat([]byte{1}, 513), E: 3}, {N: bytes.Repeat([]byte{1}, 70000), E: 3},
	}
}

func wrongRes() []api.Res {
	return []api.Res{
		{}, {Inherit: true, Ases: []api.Range{{Lo: 1, Hi: 2}}}, {Inherit: true, Spans: spans("10.0.0.0", "10.0.0.1")},
		of(nil, api.Range{Lo: 2, Hi: 1}), of(nil, api.Range{Lo: 1, Hi: 2}, api.Range{Lo: 3, Hi: 4}),
		of(spans("10.0.0.2", "10.0.0.1")), of(spans("10.0.0.3", "10.0.0.4", "10.0.0.1", "10.0.0.1")), many(401, 0), many(0, 401), many(70000, 70000),
	}
}

// valid are certificates with ordinary parts, and with each edge of them.
func valid() []api.Cert {
	l := []api.Cert{anchor(), child(), end(), knownCerts()[0].cert, knownCerts()[1].cert}
	for _, f := range rightChanges() {
		l = append(l, but(anchor(), f), but(child(), f))
	}
	return l
}

// wrong are certificates that are not valid, most of them for one reason.
func wrong() []api.Cert {
	var l []api.Cert
	for _, f := range wrongChanges() {
		l = append(l, but(anchor(), f), but(child(), f))
	}
	for _, s := range []string{"a", " ", strings.Repeat("x", 200)} {
		l = append(l, but(end(), func(c *api.Cert) { c.Repo = s }))
	}
	l = append(l, but(end(), func(c *api.Cert) { c.CA = true }))
	return l
}

// randomCerts are valid ones that differ in all their parts.
func randomCerts(seed int64, size int) []api.Cert {
	r := rand.New(rand.NewSource(seed))
	word := func(least int) string {
		b := make([]byte, least+r.Intn(40))
		for i := range b {
			b[i] = byte(' ' + r.Intn(95))
		}
		return string(b)
	}
	var l []api.Cert
	for range size {
		from := firstTime + r.Int63n(lastTime-firstTime)
		c := api.Cert{
			Serial: r.Uint32() >> r.Intn(32), Issuer: word(1), Subject: word(1), From: from, To: from + r.Int63n(lastTime-from+1),
			Key: signers()[r.Intn(4)].key, CA: r.Intn(2) == 0, Res: many(r.Intn(4), 1+r.Intn(4)), Crl: word(0),
		}
		if c.CA {
			c.Repo = word(1)
		}
		l = append(l, c)
	}
	return l
}

// P15.1

func TestRight(t *testing.T) {
	for _, c := range slices.Concat(valid(), randomCerts(1, 300)) {
		if !cert.Right(c) || !wantRight(c) {
			t.Errorf("not valid: %+v", c)
		}
	}
}

func TestRightNodeAndMakeOfWrongCertificates(t *testing.T) {
	for i, c := range wrong() {
		if wantRight(c) || cert.Right(c) {
			t.Error("valid:", i)
		}
		if n, e := cert.Node(c); e != api.ErrArg || !sameNode(n, api.Node{}) {
			t.Error(i, n, e)
		}
		for _, sig := range [][]byte{nil, {1, 2, 3}, make([]byte, 30000)} {
			if b, e := cert.Make(c, sig); e != api.ErrArg || len(b) != 0 {
				t.Error(i, b, e)
			}
		}
	}
}

// Each pair of changes: no part of a certificate mends another one, except that CA and Repo belong together.
func TestRightOfTwoChanges(t *testing.T) {
	all := slices.Concat(rightChanges(), wrongChanges())
	right := 0
	for i, f := range all {
		for j, g := range all {
			c := but(child(), f)
			if len(c.Res.Spans) > 1000 || len(c.Repo) > 1000 {
				continue
			}
			g(&c)
			want := wantRight(c)
			if want {
				right++
			}
			if cert.Right(c) != want {
				t.Fatal(i, j, want)
			}
		}
	}
	if right < 1000 {
		t.Error("too few are valid:", right)
	}
}

func TestRightOfRepoAndCA(t *testing.T) {
	for repo, isWord := range map[string]bool{"": false, "a": true, " ": true, "rsync://example.net/": true} {
		for _, isCA := range []bool{false, true} {
			if c := but(anchor(), func(c *api.Cert) { c.CA, c.Repo = isCA, repo }); cert.Right(c) != (isWord == isCA) {
				t.Error(repo, isCA)
			}
		}
	}
}

// Every byte of a text, alone and within another text.
func TestRightOfEveryByte(t *testing.T) {
	for value := range 256 {
		want := value >= 32 && value <= 126
		for _, s := range []string{string([]byte{byte(value)}), "a" + string([]byte{byte(value)}), string([]byte{byte(value)}) + "a"} {
			for i, f := range []change{
				func(c *api.Cert) { c.Issuer = s }, func(c *api.Cert) { c.Subject = s }, func(c *api.Cert) { c.Repo = s }, func(c *api.Cert) { c.Crl = s },
			} {
				if cert.Right(but(anchor(), f)) != want {
					t.Error(value, i)
				}
			}
		}
	}
}

func TestRightOfTimes(t *testing.T) {
	points := []int64{math.MinInt64, firstTime - 1, firstTime, firstTime + 1, -1, 0, 1, longTime - 1, longTime, lastTime - 1, lastTime, lastTime + 1, math.MaxInt64}
	for _, from := range points {
		for _, to := range points {
			want := from >= firstTime && to <= lastTime && from <= to
			if cert.Right(but(child(), func(c *api.Cert) { c.From, c.To = from, to })) != want {
				t.Error(from, to)
			}
		}
	}
}

// A key, and resources, are valid where rsa and res say so.
func TestRightIsThatOfTheLowerLayers(t *testing.T) {
	for size := range 520 {
		for exponent := range uint32(5) {
			k := api.Key{N: bytes.Repeat([]byte{byte(size)}, size), E: exponent}
			if cert.Right(but(child(), func(c *api.Cert) { c.Key = k })) != rsa.Right(k) {
				t.Error(size, exponent)
			}
		}
	}
	for _, r := range append(wrongRes(), api.Res{Inherit: true}, all(), many(400, 400), many(1, 0)) {
		if cert.Right(but(child(), func(c *api.Cert) { c.Res = r })) != res.Right(r) {
			t.Error(len(r.Spans), len(r.Ases), r.Inherit)
		}
	}
}

func TestNodeInBytes(t *testing.T) {
	modulus := slices.Concat([]byte{128}, make([]byte, 60), []byte{1})
	c := api.Cert{
		Serial: 128, Issuer: "up", Subject: "me", From: 951868800, To: 2524608000, Key: api.Key{N: modulus, E: 3}, CA: true,
		Res: of(spans("10.0.0.1", "10.0.0.4"), api.Range{Lo: 0, Hi: 255}), Repo: "r/", Crl: "c",
	}
	n, e := cert.Node(c)
	b, written := tlv.Write(n)
	want := slices.Concat(
		[]byte{48, 129, 175},
		[]byte{2, 2, 0, 128},
		[]byte{22, 2, 'u', 'p'},
		[]byte{48, 32, 23, 13}, []byte("000301000000Z"), []byte{24, 15}, []byte("20500101000000Z"),
		[]byte{22, 2, 'm', 'e'},
		[]byte{48, 88, 48, 13, 6, 9, 42, 134, 72, 134, 247, 13, 1, 1, 1, 5, 0, 3, 71, 0, 48, 68, 2, 63, 0}, modulus, []byte{2, 1, 3},
		[]byte{1, 1, 255},
		[]byte{48, 25, 48, 12, 4, 4, 10, 0, 0, 1, 4, 4, 10, 0, 0, 4, 48, 0, 48, 7, 2, 1, 0, 2, 2, 0, 255},
		[]byte{48, 7, 22, 2, 'r', '/', 22, 1, 'c'},
	)
	if e != api.OK || written != api.OK || !bytes.Equal(b, want) {
		t.Error(b, e, written)
	}
	c.CA, c.Repo, c.Crl, c.Res, c.Serial, c.To = false, "", "", api.Res{Inherit: true}, 0, c.From
	n, e = cert.Node(c)
	b, written = tlv.Write(n)
	want = slices.Concat(
		[]byte{48, 129, 144},
		[]byte{2, 1, 0},
		[]byte{22, 2, 'u', 'p'},
		[]byte{48, 30, 23, 13}, []byte("000301000000Z"), []byte{23, 13}, []byte("000301000000Z"),
		[]byte{22, 2, 'm', 'e'},
		[]byte{48, 88, 48, 13, 6, 9, 42, 134, 72, 134, 247, 13, 1, 1, 1, 5, 0, 3, 71, 0, 48, 68, 2, 63, 0}, modulus, []byte{2, 1, 3},
		[]byte{1, 1, 0},
		[]byte{5, 0},
		[]byte{48, 4, 22, 0, 22, 0},
	)
	if e != api.OK || written != api.OK || !bytes.Equal(b, want) {
		t.Error(b, e, written)
	}
}

func TestNode(t *testing.T) {
	for _, c := range slices.Concat(valid(), randomCerts(2, 300)) {
		if n, e := cert.Node(c); e != api.OK || !sameNode(n, wantNode(c)) {
			t.Errorf("%+v %v %d", c, n, e)
		}
	}
}

// The parts of the element are those of the lower layers.
func TestNodeHasThePartsOfTheLowerLayers(t *testing.T) {
	must := func(n api.Node, e api.Errno) api.Node {
		if e != api.OK {
			t.Fatal(e)
		}
		return n
	}
	for _, c := range valid() {
		want := list(
			scalar.Int(uint64(c.Serial)),
			must(scalar.Text(c.Issuer)),
			list(must(scalar.Time(c.From)), must(scalar.Time(c.To))),
			must(scalar.Text(c.Subject)),
			must(spki.Node(c.Key)),
			scalar.Bool(c.CA),
			must(res.Node(c.Res)),
			list(must(scalar.Text(c.Repo)), must(scalar.Text(c.Crl))),
		)
		if n := must(cert.Node(c)); !sameNode(n, want) {
			t.Errorf("%+v %v", c, n)
		}
	}
}

func TestMake(t *testing.T) {
	for _, c := range slices.Concat(valid(), randomCerts(3, 100)) {
		for _, sig := range [][]byte{nil, {}, {0}, {128, 0, 7}, bytes.Repeat([]byte{255}, 512)} {
			want, wrong := sealed(wantNode(c), sig), api.OK
			if len(want) > 20000 {
				want, wrong = nil, api.ErrLarge
			}
			if b, e := cert.Make(c, sig); e != wrong || !bytes.Equal(b, want) {
				t.Fatalf("%+v %v %d", c, b, e)
			}
			n, _ := cert.Node(c)
			sealed, sealing := spki.Seal(n, sig)
			if b, e := cert.Make(c, sig); e != sealing || !bytes.Equal(b, sealed) {
				t.Fatalf("%+v %v %d", c, b, e)
			}
		}
	}
}

func TestMakeOfKnownCertificates(t *testing.T) {
	for i, known := range knownCerts() {
		if b, e := cert.Make(known.cert, bytesOf(known.sig)); e != api.OK || !bytes.Equal(b, known.whole()) {
			t.Error(i, b, e)
		}
	}
}

// A certificate of 20000 bytes, by its signature or by its resources, and one with one byte more.
func TestMakeOfTheMostBytes(t *testing.T) {
	for _, c := range []api.Cert{child(), but(child(), func(c *api.Cert) { c.Res = many(400, 200) }), but(child(), func(c *api.Cert) { c.Res = many(0, 400) })} {
		sig := bytes.Repeat([]byte{5}, 20000-len(sealed(wantNode(c), make([]byte, 300)))+300)
		for len(sealed(wantNode(c), sig)) > 20000 {
			sig = sig[1:]
		}
		b, e := cert.Make(c, sig)
		if e != api.OK || len(b) != 20000 || !bytes.Equal(b, sealed(wantNode(c), sig)) {
			t.Error(len(b), e)
		}
		if got, e := cert.Read(b); e != api.OK || !sameCert(got, c) {
			t.Error(got, e)
		}
		if b, e := cert.Make(c, append(sig, 5)); e != api.ErrLarge || len(b) != 0 {
			t.Error(len(b), e)
		}
	}
	if b, e := cert.Make(but(child(), func(c *api.Cert) { c.Res = many(400, 400) }), nil); e != api.ErrLarge || len(b) != 0 {
		t.Error(len(b), e)
	}
}

// P15.2

func TestRead(t *testing.T) {
	for _, c := range slices.Concat(valid(), randomCerts(4, 200)) {
		for _, sig := range [][]byte{nil, {0}, bytes.Repeat([]byte{255}, 64)} {
			b := sealed(wantNode(c), sig)
			if len(b) > 20000 {
				continue
			}
			if got, e := cert.Read(b); e != api.OK || !sameCert(got, c) {
				t.Fatalf("%+v %+v %d", c, got, e)
			}
		}
	}
}

func TestReadOfKnownCertificates(t *testing.T) {
	for i, known := range knownCerts() {
		if got, e := cert.Read(known.whole()); e != api.OK || !sameCert(got, known.cert) {
			t.Errorf("%d %+v %d", i, got, e)
		}
	}
}

// checkRead holds Read against the promise: the error of spki.Open, or what each part of the opened element says.
func checkRead(t *testing.T, b []byte) bool {
	t.Helper()
	n, _, sig, want := spki.Open(b)
	var wanted api.Cert
	if want == api.OK {
		c, ok := wantCert(n)
		if ok {
			wanted = c
		} else {
			want = api.ErrForm
		}
	}
	got, e := cert.Read(b)
	if e != want || !sameCert(got, wanted) {
		t.Fatalf("%v %+v %d, want %+v %d", b, got, e, wanted, want)
	}
	if e != api.OK {
		return false
	}
	if again, e := cert.Make(got, sig); e != api.OK || !bytes.Equal(again, b) {
		t.Fatalf("what is read has other bytes: %v %v %d", b, again, e)
	}
	return true
}

func nest(deep int) api.Node {
	n := list()
	for range deep - 1 {
		n = list(n)
	}
	return n
}

func TestReadReturnsTheErrorsOfOpen(t *testing.T) {
	right := sealed(wantNode(child()), []byte{1, 2, 3})
	for i, c := range []struct {
		b    []byte
		want api.Errno
	}{
		{nil, api.ErrShort},
		{[]byte{}, api.ErrShort},
		{[]byte{48}, api.ErrShort},
		{right[:len(right)-1], api.ErrShort},
		{right[:9], api.ErrShort},
		{right[1:], api.ErrForm},
		{append(slices.Clone(right), 0), api.ErrForm},
		{[]byte{31, 0}, api.ErrForm},
		{[]byte{48, 3, 2, 2, 5}, api.ErrForm},
		{[]byte{48, 0}, api.ErrForm},
		{encode(wantNode(child())), api.ErrForm},
		{encode(list(wantNode(child()), algorithm(11))), api.ErrForm},
		{encode(list(wantNode(child()), algorithm(12), bits(nil))), api.ErrForm},
		{encode(list(wantNode(child()), algorithm(11), bits(nil), bits(nil))), api.ErrForm},
		{encode(nest(33)), api.ErrDeep},
		{sealed(nest(32), nil), api.ErrDeep},
		{sealed(wantNode(child()), make([]byte, 20000)), api.ErrLarge},
		{make([]byte, 20001), api.ErrLarge},
	} {
		_, _, _, opening := spki.Open(c.b)
		if got, e := cert.Read(c.b); e != c.want || opening != c.want || !isZero(got) {
			t.Error(i, got, e)
		}
	}
}

// Elements that are sealed, but those of no certificate.
func TestReadOfOtherElements(t *testing.T) {
	right := wantNode(child())
	put := func(i int, n api.Node) api.Node {
		other := cloneNode(right)
		other.Kids[i] = n
		return other
	}
	times := right.Kids[2].Kids
	for i, n := range []api.Node{
		{Tag: 5}, number(5), list(), list(list()), {Tag: 4, Body: encode(right)}, list(right), nest(8),
		list(list(), list(), list(), list(), list(), list(), list(), list()),
		list(right.Kids[:7]...), list(right.Kids[1:]...), list(append(slices.Clone(right.Kids), api.Node{Tag: 5})...),
		{Tag: 49, Kids: right.Kids}, {Tag: 160, Kids: right.Kids}, {Tag: 32, Kids: right.Kids},
		put(0, number()), put(0, number(0, 77)), put(0, number(255)), put(0, number(1, 0, 0, 0, 77)), put(0, number(1, 0, 0, 0, 0, 0, 0, 0, 77)), put(0, boolean(77)),
		put(0, number(1, 0, 0, 0, 0)), put(0, number(0, 128, 0, 0, 0, 0, 0, 0, 77)),
		put(1, text("")), put(1, text("\x1f")), put(1, text(strings.Repeat("x", 201))), put(1, api.Node{Tag: 12, Body: []byte("anchor")}), put(1, api.Node{Tag: 19, Body: []byte("anchor")}), put(1, list(text("anchor"))),
		put(2, list()), put(2, list(times[0])), put(2, list(times[1], times[0])), put(2, list(times[0], times[1], times[1])), put(2, times[0]), put(2, api.Node{Tag: 49, Kids: times}),
		put(2, list(api.Node{Tag: 24, Body: []byte("20041109113640Z")}, times[1])), put(2, list(times[0], api.Node{Tag: 23, Body: []byte("300317174640+0000")})),
		put(2, list(times[0], api.Node{Tag: 24, Body: []byte("22000101000000Z")})),
		put(3, text("")), put(3, text("\x7f")), put(3, api.Node{Tag: 4, Body: []byte("child")}), put(3, list()),
		put(4, list()), put(4, list(algorithm(1), bits(nil))), put(4, list(algorithm(11), right.Kids[4].Kids[1])), put(4, api.Node{Tag: 5}), put(4, list(algorithm(1))),
		put(5, boolean()), put(5, boolean(1)), put(5, boolean(254)), put(5, boolean(255, 255)), put(5, boolean(0)), put(5, number(255)), put(5, number(0)), put(5, api.Node{Tag: 5}),
		put(6, list()), put(6, list(list(), list(), list())), put(6, list(right.Kids[6].Kids[0])), put(6, api.Node{Tag: 5, Body: []byte{0}}), put(6, list(right.Kids[6].Kids[0], right.Kids[6].Kids[2], list())),
		put(7, list()), put(7, list(text("a"))), put(7, list(text(""), text("a"))), put(7, list(text("a"), text("b"), text("c"))), put(7, list(text("\n"), text("a"))), put(7, list(text("a"), text("\n"))), put(7, text("a")),
		put(7, api.Node{Tag: 49, Kids: right.Kids[7].Kids}), put(7, list(text("a"), api.Node{Tag: 5})), put(7, list(list(), text("a"))),
	} {
		b := sealed(n, []byte{9})
		if got, e := cert.Read(b); e != api.ErrForm || !isZero(got) {
			t.Errorf("%d %+v %d", i, got, e)
		}
		checkRead(t, b)
	}
}

// The element of a certificate that is not valid, where it differs in nothing else, is that of none.
func TestReadOfWrongCertificates(t *testing.T) {
	for i, c := range wrong() {
		n := wantNode(c)
		if _, _, _, e := spki.Open(sealed(n, nil)); e != api.OK {
			continue // too large, or with an element that is none
		}
		if got, e := cert.Read(sealed(n, nil)); e != api.ErrForm || !isZero(got) {
			t.Errorf("%d %+v %d", i, got, e)
		}
	}
}

func TestReadOfChangedElements(t *testing.T) {
	read := 0
	for _, c := range []api.Cert{child(), end(), but(anchor(), func(c *api.Cert) { c.To = longTime })} {
		for i, once := range changedWithin(wantNode(c)) {
			if checkRead(t, sealed(once, []byte{1})) {
				read++
			}
			if i%40 != 0 {
				continue
			}
			for _, twice := range changed(once) {
				if checkRead(t, sealed(twice, nil)) {
					read++
				}
			}
		}
	}
	if read < 1000 {
		t.Error("too few were read:", read)
	}
}

// Two parts are changed at once, among them those that belong together.
func TestReadOfTwoChangedParts(t *testing.T) {
	whole := wantNode(end())
	for _, pair := range [][2]int{{5, 7}, {0, 1}, {1, 3}, {2, 5}, {6, 7}} {
		for _, a := range changedWithin(whole.Kids[pair[0]]) {
			for j, b := range changedWithin(whole.Kids[pair[1]]) {
				if pair != [2]int{5, 7} && j%7 != 0 {
					continue
				}
				n := cloneNode(whole)
				n.Kids[pair[0]], n.Kids[pair[1]] = a, b
				checkRead(t, sealed(n, nil))
			}
		}
	}
}

func TestReadOfChangedBytes(t *testing.T) {
	for _, c := range []api.Cert{end(), but(child(), func(c *api.Cert) { c.Serial = 1 << 31 })} {
		b := sealed(wantNode(c), []byte{3, 128})
		for i := range b {
			if checkRead(t, b[:i]) || checkRead(t, b[i+1:]) || checkRead(t, slices.Delete(slices.Clone(b), i, i+1)) {
				t.Fatal("read without some of its bytes:", i)
			}
			for value := range 256 {
				checkRead(t, withByte(b, i, byte(value)))
			}
		}
	}
}

func TestReadOfRandomBytes(t *testing.T) {
	r := rand.New(rand.NewSource(7))
	for range 20000 {
		b := make([]byte, r.Intn(60))
		r.Read(b)
		if len(b) > 2 && r.Intn(2) == 0 {
			b[0], b[1] = 48, byte(len(b)-2)
		}
		checkRead(t, b)
	}
}
