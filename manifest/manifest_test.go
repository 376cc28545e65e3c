package manifest_test

import (
	"bytes"
	"crypto/sha256"
	"math"
	"math/rand"
	"slices"
	"strings"
	"testing"

	"lanyard/api"
	"lanyard/manifest"
	"lanyard/scalar"
	"lanyard/tlv"
)

// ordinary is a manifest with some files.
func ordinary() api.Manifest {
	return api.Manifest{Number: 300, This: 1000000000, Next: 1000086400, Files: named("-", "0.roa", "ca.crl", "ca1.cer", "ca_1.cer")}
}

// none is a manifest without files.
func none() api.Manifest {
	return api.Manifest{Number: 0, This: longTime - 1, Next: longTime}
}

// change is one of a manifest.
type change func(*api.Manifest)

// rightChanges leave a manifest valid.
func rightChanges() []change {
	l := []change{
		func(m *api.Manifest) { m.This = m.Next },
		func(m *api.Manifest) { m.Next = m.This },
		func(m *api.Manifest) { m.This, m.Next = firstTime, lastTime },
		func(m *api.Manifest) { m.This, m.Next = firstTime, firstTime },
		func(m *api.Manifest) { m.This, m.Next = lastTime, lastTime },
		func(m *api.Manifest) { m.This, m.Next = longTime-1, longTime },
		func(m *api.Manifest) { m.This, m.Next = -1, 0 },
	}
	for _, n := range []uint32{0, 1, 127, 128, 255, 256, 32767, 32768, 65535, 1 << 23, 1 << 31, math.MaxUint32} {
		l = append(l, func(m *api.Manifest) { m.Number = n })
	}
	for _, files := range rightFiles() {
		l = append(l, func(m *api.Manifest) { m.Files = files })
	}
	return l
}

func rightFiles() [][]api.File {
	l := [][]api.File{nil, {}, many(100, 3), many(399, 3), many(400, 3), many(400, 5), many(100, 60)}
	for _, names := range [][]string{
		{"-", "0"}, {"-", "-."}, {"a", "aa"}, {"a", "a-", "a.", "a0", "a_", "aa", "b"}, {"9", "_", "a"}, {"z", "z-"},
		{strings.Repeat("z", 59), strings.Repeat("z", 60)}, {strings.Repeat("z", 59) + "y", strings.Repeat("z", 60)},
	} {
		l = append(l, named(names...))
	}
	for _, name := range []string{"a", "z", "0", "9", "-", "_", "a.", "a..b", "ca.crl", ofNames, strings.Repeat("x", 60), "x" + strings.Repeat(".", 59)} {
		l = append(l, named(name))
	}
	for _, hash := range [][32]byte{{}, {1}, {31: 1}, {128}, [32]byte(bytes.Repeat([]byte{255}, 32))} {
		l = append(l, []api.File{{Name: "file", Hash: hash}})
	}
	return l
}

// wrongChanges leave no manifest valid.
func wrongChanges() []change {
	l := []change{
		func(m *api.Manifest) { *m = api.Manifest{This: 1} },
		func(m *api.Manifest) { m.This = m.Next + 1 },
		func(m *api.Manifest) { m.Next = m.This - 1 },
		func(m *api.Manifest) { m.This, m.Next = lastTime, firstTime },
	}
	for _, s := range []int64{firstTime - 1, lastTime + 1, math.MinInt64, math.MaxInt64, math.MinInt64 + 1, -1 << 40, 1 << 40} {
		l = append(l, func(m *api.Manifest) { m.This = s }, func(m *api.Manifest) { m.Next = s }, func(m *api.Manifest) { m.This, m.Next = s, s })
	}
	for _, files := range wrongFiles() {
		l = append(l, func(m *api.Manifest) { m.Files = files })
	}
	return l
}

func wrongFiles() [][]api.File {
	l := [][]api.File{many(401, 3), many(402, 3), many(2000, 4), many(70000, 6), make([]api.File, 1), make([]api.File, 400)}
	for _, names := range [][]string{
		{"b", "a"}, {"a", "a"}, {"aa", "a"}, {"a0", "a."}, {"a", "_"}, {"_", "9"}, {"0", "-"}, {"-.", "-"}, {"b", "ab"},
		{"a", "b", "b"}, {"a", "a", "b"}, {"a", "c", "b"}, {"c", "a", "b"}, {"a", "b", "c", "a"}, {"a", "b", ""}, {"", "a"},
		{strings.Repeat("z", 60), strings.Repeat("z", 59)}, {"a", "b/c"}, {"a", ".b"}, {"A", "a"}, {".", "a"},
	} {
		l = append(l, named(names...))
	}
	for _, name := range wrongNames() {
		l = append(l, named(name), named("a", "a"+name), append(many(300, 4), named("a", "b"+name)...))
	}
	l = append(l[:len(l):len(l)], named("a", "aa", strings.Repeat("b", 61)), named("b", "c", "d", ".e"))
	for _, i := range []int{0, 1, 200, 398} {
		equal, down := many(400, 5), many(400, 5)
		equal[i].Name = equal[i+1].Name
		down[i], down[i+1] = down[i+1], down[i]
		l = append(l, equal, down)
	}
	return l
}

// wrongNames are wrong also behind a letter.
func wrongNames() []string {
	l := []string{"/", "a/b", "A", "a b", " ", "a\n", "\x00", "a\x00", "\x7f", "\x80", "é", "a:b", "a%", "A.roa", "ca.CRL", "*", "+", ",", "@", "[", "`", "{", "~", "^"}
	for _, size := range []int{61, 62, 200, 201, 65536} {
		l = append(l, strings.Repeat("x", size), strings.Repeat("-", size))
	}
	return l
}

// valid are manifests with ordinary parts, and with each edge of them.
func valid() []api.Manifest {
	l := []api.Manifest{ordinary(), none(), {}, knownManifests()[0].manifest, knownManifests()[1].manifest}
	for _, f := range rightChanges() {
		l = append(l, but(ordinary(), f), but(none(), f))
	}
	return l
}

// wrong are manifests that are not valid, most of them for one reason.
func wrong() []api.Manifest {
	var l []api.Manifest
	for _, f := range wrongChanges() {
		l = append(l, but(ordinary(), f), but(none(), f))
	}
	return l
}

// randomManifests are valid ones that differ in all their parts.
func randomManifests(seed int64, size int) []api.Manifest {
	r := rand.New(rand.NewSource(seed))
	var l []api.Manifest
	for range size {
		this := firstTime + r.Int63n(lastTime-firstTime)
		m := api.Manifest{Number: r.Uint32() >> r.Intn(32), This: this, Next: this + r.Int63n(lastTime-this+1)}
		for range r.Intn(20) {
			name := make([]byte, 1+r.Intn(60)>>r.Intn(6))
			for i := range name {
				name[i] = ofNames[r.Intn(len(ofNames))]
			}
			if name[0] == '.' {
				name[0] = 'z'
			}
			f := api.File{Name: string(name)}
			r.Read(f.Hash[:])
			m.Files = append(m.Files, f)
		}
		slices.SortFunc(m.Files, func(a, b api.File) int { return strings.Compare(a.Name, b.Name) })
		m.Files = slices.CompactFunc(m.Files, func(a, b api.File) bool { return a.Name == b.Name })
		l = append(l, m)
	}
	return l
}

// P17.1

func TestRight(t *testing.T) {
	for i, m := range slices.Concat(valid(), randomManifests(1, 500)) {
		if !manifest.Right(m) || !wantRight(m) {
			t.Errorf("%d is not valid: %+v", i, m)
		}
	}
}

func TestRightAndMakeOfWrongManifests(t *testing.T) {
	for i, m := range wrong() {
		if wantRight(m) || manifest.Right(m) {
			t.Error("valid:", i)
		}
		if b, e := manifest.Make(m); e != api.ErrArg || len(b) != 0 {
			t.Error(i, b, e)
		}
	}
}

// Each pair of changes: no part of a manifest mends another one.
func TestRightOfTwoChanges(t *testing.T) {
	all := slices.Concat(rightChanges(), wrongChanges())
	right := 0
	for i, f := range all {
		for j, g := range all {
			m := ordinary()
			f(&m)
			g(&m)
			if len(m.Files) > 50 && i%5 != j%5 {
				continue
			}
			want := wantRight(m)
			if want {
				right++
			}
			if manifest.Right(m) != want {
				t.Fatal(i, j, want)
			}
		}
	}
	if right < 500 {
		t.Error("too few are valid:", right)
	}
}

func TestRightOfTimes(t *testing.T) {
	points := []int64{math.MinInt64, firstTime - 1, firstTime, firstTime + 1, -1, 0, 1, longTime - 1, longTime, lastTime - 1, lastTime, lastTime + 1, math.MaxInt64}
	for _, this := range points {
		for _, next := range points {
			want := this >= firstTime && next <= lastTime && this <= next
			if manifest.Right(but(ordinary(), func(m *api.Manifest) { m.This, m.Next = this, next })) != want {
				t.Error(this, next)
			}
		}
	}
}

// isName also asks for a manifest with one file.
func isName(t *testing.T, s string, want bool) {
	t.Helper()
	if manifest.Name(s) != want || wantName(s) != want {
		t.Errorf("%q: want %v", s, want)
	}
	if manifest.Right(api.Manifest{Files: named(s)}) != want {
		t.Errorf("%q in a manifest: want %v", s, want)
	}
}

func TestName(t *testing.T) {
	for _, s := range []string{"a", "z", "0", "9", "-", "_", "ca.crl", "a.", "a..", "-.", "0-_.z", "x...", ofNames, strings.Repeat("a", 60), strings.Repeat("-", 60), "a" + strings.Repeat(".", 59)} {
		isName(t, s, true)
	}
	for _, s := range slices.Concat(wrongNames(), []string{"", ".", "..", ".a", ".ca.crl", "..a", "." + strings.Repeat("a", 59), "." + strings.Repeat("a", 60), strings.Repeat("a", 1<<20)}) {
		isName(t, s, false)
	}
}

// All names of one byte, of two, and with each byte at the ends and in the middle of other names.
func TestNameOfEveryByte(t *testing.T) {
	for first := range 256 {
		one := string([]byte{byte(first)})
		want := strings.Contains(ofNames, one)
		isName(t, one, want && one != ".")
		isName(t, one+"a", want && one != ".")
		isName(t, "b"+one, want)
		isName(t, "some"+one+"name", want)
		isName(t, strings.Repeat("b", 59)+one, want)
		isName(t, strings.Repeat("b", 60)+one, false)
		for second := range 256 {
			s := string([]byte{byte(first), byte(second)})
			if manifest.Name(s) != wantName(s) {
				t.Errorf("%q", s)
			}
		}
	}
}

func TestNameOfEveryLength(t *testing.T) {
	for size := range 300 {
		for _, one := range []string{"a", "-", "0"} {
			if manifest.Name(strings.Repeat(one, size)) != (size >= 1 && size <= 60) {
				t.Error(size, one)
			}
		}
		if manifest.Name(strings.Repeat(".", size)) || manifest.Name(strings.Repeat("/", size)) {
			t.Error(size)
		}
	}
}

// All short lists of names, among them such as begin with one another.
func TestRightOfNames(t *testing.T) {
	names := []string{"-", "-a", ".", "0", "_", "a", "a-", "aa", "b", ""}
	right := 0
	var check func(l []string)
	check = func(l []string) {
		files := named(l...)
		want := areFiles(files)
		if want {
			right++
		}
		if manifest.Right(but(ordinary(), func(m *api.Manifest) { m.Files = files })) != want {
			t.Error(l, want)
		}
		if len(l) == 4 {
			return
		}
		for _, name := range names {
			check(append(slices.Clone(l), name))
		}
	}
	check(nil)
	if want := 1 + 8 + 28 + 56 + 70; right != want { // the sets of up to four of the eight names
		t.Error(right, want)
	}
}

func TestRightOfTheMostFiles(t *testing.T) {
	for size := range 450 {
		if manifest.Right(but(ordinary(), func(m *api.Manifest) { m.Files = many(size, 3) })) != (size <= 400) {
			t.Error(size)
		}
	}
}

func TestRightOfNamesAtEveryPlace(t *testing.T) {
	isWrong := func(i int, f func(l []api.File)) {
		t.Helper()
		l := many(400, 5)
		f(l)
		if manifest.Right(api.Manifest{Files: l}) {
			t.Error(i)
		}
	}
	for i := range 400 {
		isWrong(i, func(l []api.File) { l[i].Name = "" })
		isWrong(i, func(l []api.File) { l[i].Name += "/" })
		isWrong(i, func(l []api.File) { l[i].Name += strings.Repeat("0", 56) })
		if i < 399 {
			isWrong(i, func(l []api.File) { l[i].Name = l[i+1].Name })
			isWrong(i, func(l []api.File) { l[i], l[i+1] = l[i+1], l[i] })
		}
	}
}

func TestMakeInBytes(t *testing.T) {
	m := api.Manifest{Number: 128, This: 951868800, Next: 2524608000, Files: []api.File{{Name: "a", Hash: [32]byte{1, 31: 255}}, {Name: "a.b"}}}
	b, e := manifest.Make(m)
	want := slices.Concat(
		[]byte{48, 122},
		[]byte{2, 2, 0, 128},
		[]byte{48, 32, 23, 13}, []byte("000301000000Z"), []byte{24, 15}, []byte("20500101000000Z"),
		[]byte{48, 82},
		[]byte{48, 38, 22, 1, 'a', 3, 33, 0, 1}, make([]byte, 30), []byte{255},
		[]byte{48, 40, 22, 3, 'a', '.', 'b', 3, 33, 0}, make([]byte, 32),
	)
	if e != api.OK || !bytes.Equal(b, want) {
		t.Error(b, e)
	}
	b, e = manifest.Make(api.Manifest{})
	want = slices.Concat([]byte{48, 37, 2, 1, 0}, []byte{48, 30, 23, 13}, []byte("700101000000Z"), []byte{23, 13}, []byte("700101000000Z"), []byte{48, 0})
	if e != api.OK || !bytes.Equal(b, want) {
		t.Error(b, e)
	}
}

// isMade asks for Make of a valid manifest, which may have too many bytes.
func isMade(t *testing.T, m api.Manifest) {
	t.Helper()
	want, wantE := wantBytes(m), api.OK
	if len(want) > 20000 {
		want, wantE = nil, api.ErrLarge
	}
	if b, e := manifest.Make(m); e != wantE || !bytes.Equal(b, want) {
		t.Fatalf("%+v %v %d", m, b, e)
	}
}

func TestMake(t *testing.T) {
	for _, m := range slices.Concat(valid(), randomManifests(2, 500)) {
		isMade(t, m)
	}
}

func TestMakeOfKnownManifests(t *testing.T) {
	for i, known := range knownManifests() {
		if b, e := manifest.Make(known.manifest); e != api.OK || !bytes.Equal(b, bytesOf(known.bytes)) {
			t.Error(i, b, e)
		}
	}
}

// The parts are those of the lower layers.
func TestMakeHasThePartsOfTheLowerLayers(t *testing.T) {
	must := func(n api.Node, e api.Errno) api.Node {
		if e != api.OK {
			t.Fatal(e)
		}
		return n
	}
	for _, m := range valid() {
		files := list()
		for _, f := range m.Files {
			files.Kids = append(files.Kids, list(must(scalar.Text(f.Name)), must(scalar.Bits(f.Hash[:], 256))))
		}
		want, wantE := tlv.Write(list(scalar.Int(uint64(m.Number)), list(must(scalar.Time(m.This)), must(scalar.Time(m.Next))), files))
		if b, e := manifest.Make(m); e != wantE || !bytes.Equal(b, want) {
			t.Errorf("%+v %v %d", m, b, e)
		}
	}
}

// sized is a manifest of so many bytes, with so many files.
func sized(t *testing.T, bytes, files int) api.Manifest {
	t.Helper()
	m := but(ordinary(), func(m *api.Manifest) { m.Files = many(files, 4) })
	for i := range bytes - len(wantBytes(m)) {
		m.Files[i%files].Name += "0"
	}
	if len(wantBytes(m)) != bytes || !wantRight(m) {
		t.Fatal("no such manifest")
	}
	return m
}

// Manifests of 20000 bytes, and with one byte more.
func TestMakeAndReadOfTheMostBytes(t *testing.T) {
	for _, files := range []int{202, 300, 400} {
		for bytes := 19998; bytes <= 20002; bytes++ {
			m := sized(t, bytes, files)
			isMade(t, m)
			got, e := manifest.Read(wantBytes(m))
			want, wantE := m, api.OK
			if bytes > 20000 {
				want, wantE = api.Manifest{}, api.ErrLarge
			}
			if e != wantE || !sameManifest(got, want) {
				t.Error(files, bytes, e)
			}
		}
	}
	isMade(t, but(ordinary(), func(m *api.Manifest) { m.Files = many(400, 60) }))
}

func TestRead(t *testing.T) {
	for _, m := range slices.Concat(valid(), randomManifests(3, 500)) {
		b := wantBytes(m)
		if len(b) > 20000 {
			t.Fatal("too large")
		}
		if got, e := manifest.Read(b); e != api.OK || !sameManifest(got, m) {
			t.Fatalf("%+v %+v %d", m, got, e)
		}
	}
}

func TestReadOfKnownManifests(t *testing.T) {
	for i, known := range knownManifests() {
		if got, e := manifest.Read(bytesOf(known.bytes)); e != api.OK || !sameManifest(got, known.manifest) {
			t.Errorf("%d %+v %d", i, got, e)
		}
	}
}

// checkRead holds Read against the promise: the error of tlv.Read, or what each part of the element says.
func checkRead(t *testing.T, b []byte) bool {
	t.Helper()
	n, want := tlv.Read(b)
	var wanted api.Manifest
	if want == api.OK {
		m, ok := wantManifest(n)
		if ok {
			wanted = m
		} else {
			want = api.ErrForm
		}
	}
	got, e := manifest.Read(b)
	if e != want || !sameManifest(got, wanted) {
		t.Fatalf("%v %+v %d, want %+v %d", b, got, e, wanted, want)
	}
	if e != api.OK {
		return false
	}
	if again, e := manifest.Make(got); e != api.OK || !bytes.Equal(again, b) || !manifest.Right(got) {
		t.Fatalf("what is read has other bytes: %v %v %d", b, again, e)
	}
	return true
}

func nest(deep int) api.Node {
	n := list()
	for range deep - 1 {
		n = list(n)
	}
	return n
}

func TestReadReturnsTheErrorsOfTlv(t *testing.T) {
	right := wantBytes(ordinary())
	for i, c := range []struct {
		b    []byte
		want api.Errno
	}{
		{nil, api.ErrShort},
		{[]byte{}, api.ErrShort},
		{[]byte{48}, api.ErrShort},
		{right[:len(right)-1], api.ErrShort},
		{right[:9], api.ErrShort},
		{right[1:], api.ErrForm},
		{append(slices.Clone(right), 0), api.ErrForm},
		{[]byte{31, 0}, api.ErrForm},
		{[]byte{48, 3, 2, 2, 5}, api.ErrForm},
		{[]byte{48, 0}, api.ErrForm},
		{encode(nest(32)), api.ErrForm},
		{encode(nest(33)), api.ErrDeep},
		{wantBytes(but(ordinary(), func(m *api.Manifest) { m.Files = many(400, 60) })), api.ErrLarge},
		{make([]byte, 20001), api.ErrLarge},
	} {
		if got, e := manifest.Read(c.b); e != c.want || !isZero(got) {
			t.Error(i, got, e)
		}
		checkRead(t, c.b)
	}
}

// Elements, but those of no manifest.
func TestReadOfOtherElements(t *testing.T) {
	right := wantNode(ordinary())
	put := func(i int, n api.Node) api.Node {
		other := cloneNode(right)
		other.Kids[i] = n
		return other
	}
	hash := bits(bytes.Repeat([]byte{7}, 32))
	file := func(kids ...api.Node) api.Node { return put(2, list(list(kids...))) }
	times := right.Kids[1].Kids
	for i, n := range []api.Node{
		{Tag: 5}, number(5), list(), list(list()), {Tag: 4, Body: encode(right)}, list(right), nest(8),
		list(list(), list(), list()),
		list(right.Kids[:2]...), list(right.Kids[1:]...), list(append(slices.Clone(right.Kids), api.Node{Tag: 5})...), list(append(slices.Clone(right.Kids), list())...),
		{Tag: 49, Kids: right.Kids}, {Tag: 160, Kids: right.Kids}, {Tag: 32, Kids: right.Kids},
		put(0, number()), put(0, number(0, 77)), put(0, number(255)), put(0, number(1, 0, 0, 0, 77)), put(0, number(1, 0, 0, 0, 0, 0, 0, 0, 77)), put(0, api.Node{Tag: 1, Body: []byte{77}}),
		put(0, number(1, 0, 0, 0, 0)), put(0, number(0, 128, 0, 0, 0, 0, 0, 0, 77)), put(0, list()),
		put(1, list()), put(1, list(times[0])), put(1, list(times[1], times[0])), put(1, list(times[0], times[1], times[1])), put(1, times[0]), put(1, api.Node{Tag: 49, Kids: times}),
		put(1, list(api.Node{Tag: 24, Body: []byte("20010909014640Z")}, times[1])), put(1, list(times[0], api.Node{Tag: 23, Body: []byte("010910014640+0000")})),
		put(1, list(times[0], api.Node{Tag: 24, Body: []byte("22000101000000Z")})), put(1, list(api.Node{Tag: 5}, times[1])), put(1, list(times[0], list())),
		put(2, api.Node{Tag: 5}), put(2, text("a")), put(2, api.Node{Tag: 49}), put(2, api.Node{Tag: 49, Kids: right.Kids[2].Kids}), put(2, api.Node{Tag: 160}), put(2, list(right.Kids[2])),
		file(), file(text("a")), file(hash), file(hash, text("a")), file(text("a"), hash, hash), file(text("a"), hash, text("b"), hash), file(list(text("a"), hash)),
		file(text("a"), api.Node{Tag: 4, Body: hash.Body}), file(text("a"), api.Node{Tag: 4, Body: hash.Body[1:]}), file(text("a"), api.Node{Tag: 35, Kids: []api.Node{hash}}), file(text("a"), list()),
		file(text("a"), bits(nil)), file(text("a"), bits(make([]byte, 31))), file(text("a"), bits(make([]byte, 33))), file(text("a"), bits(append(bytes.Clone(hash.Body[1:]), 0))), file(text("a"), bits(hash.Body[1:32])),
		file(text("a"), api.Node{Tag: 3}), file(text("a"), api.Node{Tag: 3, Body: make([]byte, 32)}),
		file(text("a"), api.Node{Tag: 3, Body: append([]byte{1}, make([]byte, 32)...)}), file(text("a"), api.Node{Tag: 3, Body: append([]byte{7}, make([]byte, 32)...)}), file(text("a"), api.Node{Tag: 3, Body: append([]byte{8}, make([]byte, 32)...)}),
		file(text(""), hash), file(text("."), hash), file(text(".a"), hash), file(text("a/b"), hash), file(text("A"), hash), file(text("a\x00"), hash), file(text(strings.Repeat("a", 61)), hash), file(text(strings.Repeat("a", 300)), hash),
		file(api.Node{Tag: 12, Body: []byte("a")}, hash), file(api.Node{Tag: 19, Body: []byte("a")}, hash), file(api.Node{Tag: 4, Body: []byte("a")}, hash), file(list(text("a")), hash), file(list(), hash),
		put(2, list(api.Node{Tag: 49, Kids: []api.Node{text("a"), hash}})), put(2, list(text("a"), hash)),
		put(2, list(list(text("b"), hash), list(text("a"), hash))), put(2, list(list(text("a"), hash), list(text("a"), hash))), put(2, list(list(text("a"), hash), list())), put(2, list(list(text("a"), hash), api.Node{Tag: 5})),
	} {
		b := encode(n)
		if got, e := manifest.Read(b); e != api.ErrForm || !isZero(got) {
			t.Errorf("%d %+v %d", i, got, e)
		}
		checkRead(t, b)
	}
}

// The element of a manifest that is not valid, where it differs in nothing else, is that of none.
func TestReadOfWrongManifests(t *testing.T) {
	refused := 0
	for i, m := range wrong() {
		b := wantBytes(m)
		if _, e := tlv.Read(b); e != api.OK {
			continue // too large, or with an element that is none
		}
		refused++
		if got, e := manifest.Read(b); e != api.ErrForm || !isZero(got) {
			t.Errorf("%d %+v %d", i, got, e)
		}
	}
	if refused < 100 {
		t.Error("too few were refused:", refused)
	}
}

// Manifests with as many files as there is room for in 20000 bytes.
func TestReadOfTheMostFiles(t *testing.T) {
	for _, size := range []int{0, 1, 2, 398, 399, 400, 401, 402, 450} {
		if checkRead(t, wantBytes(api.Manifest{Files: many(size, 3)})) != (size <= 400) {
			t.Error(size)
		}
	}
	for _, kid := range []api.Node{{Tag: 5}, list(), list(text("a"), bits(nil))} {
		checkRead(t, encode(list(number(0), wantNode(none()).Kids[1], list(slices.Repeat([]api.Node{kid}, 2000)...))))
	}
}

func TestReadOfChangedElements(t *testing.T) {
	read := 0
	for _, m := range []api.Manifest{ordinary(), none(), but(ordinary(), func(m *api.Manifest) { m.Next, m.Files = longTime, named("a.") })} {
		for i, once := range changedWithin(wantNode(m)) {
			if checkRead(t, encode(once)) {
				read++
			}
			if i%67 != 0 {
				continue
			}
			for _, twice := range changedWithin(once) {
				if checkRead(t, encode(twice)) {
					read++
				}
			}
		}
	}
	if read < 1000 {
		t.Error("too few were read:", read)
	}
}

func TestReadOfChangedBytes(t *testing.T) {
	for _, m := range []api.Manifest{ordinary(), none(), but(ordinary(), func(m *api.Manifest) { m.Files = named(strings.Repeat("x", 60)) })} {
		b := wantBytes(m)
		for i := range b {
			if checkRead(t, b[:i]) || checkRead(t, b[i+1:]) || checkRead(t, slices.Delete(slices.Clone(b), i, i+1)) {
				t.Fatal("read without some of its bytes:", i)
			}
			for value := range 256 {
				checkRead(t, withByte(b, i, byte(value)))
			}
		}
	}
}

func TestReadOfRandomBytes(t *testing.T) {
	r := rand.New(rand.NewSource(7))
	for range 20000 {
		b := make([]byte, r.Intn(60))
		r.Read(b)
		if len(b) > 2 && r.Intn(2) == 0 {
			b[0], b[1] = 48, byte(len(b)-2)
		}
		checkRead(t, b)
	}
}

// P17.2

func TestCurrent(t *testing.T) {
	for _, m := range []api.Manifest{ordinary(), none(), {}, {This: firstTime, Next: lastTime}, {This: 7, Next: 7}, {This: -5, Next: 5}} {
		for now, want := range map[int64]api.Errno{
			m.This - 1: api.ErrTime, m.This: api.OK, m.This + (m.Next-m.This)/2: api.OK, m.Next: api.OK, m.Next + 1: api.ErrTime,
			math.MinInt64: api.ErrTime, math.MaxInt64: api.ErrTime, m.This - 1<<32: api.ErrTime, m.Next + 1<<32: api.ErrTime,
		} {
			if e := manifest.Current(m, now); e != want {
				t.Error(m.This, m.Next, now, e)
			}
		}
	}
}

// Also of manifests that are not valid: nothing counts but the two times.
func TestCurrentOfWrongManifests(t *testing.T) {
	times := []int64{math.MinInt64, math.MinInt64 + 1, firstTime - 1, firstTime, -1, 0, 1, longTime, lastTime, lastTime + 1, math.MaxInt64 - 1, math.MaxInt64}
	files := named("b", "a", "/")
	for _, this := range times {
		for _, next := range times {
			for _, now := range times {
				want := api.OK
				if this > now || now > next {
					want = api.ErrTime
				}
				if e := manifest.Current(api.Manifest{This: this, Next: next, Files: files}, now); e != want {
					t.Error(this, next, now, e)
				}
			}
		}
	}
}

// P17.3

func TestMatchOfKnownManifests(t *testing.T) {
	for _, known := range knownManifests() {
		for i, f := range known.manifest.Files {
			for j, content := range known.contents {
				want := api.OK
				if i != j {
					want = api.ErrHash
				}
				if e := manifest.Match(known.manifest, f.Name, []byte(content)); e != want {
					t.Error(i, j, e)
				}
			}
		}
		for _, name := range []string{"", "a", "a.ro", "a.roa ", " a.roa", "A.roa", "b.roa", "ca.crl\x00", "c.crl", strings.Repeat("a", 70000)} {
			if e := manifest.Match(known.manifest, name, []byte("abc")); e != api.ErrNone {
				t.Errorf("%q %d", name, e)
			}
		}
	}
	if e := manifest.Match(api.Manifest{}, "", nil); e != api.ErrNone {
		t.Error(e)
	}
}

// Bytes of every length about those of a block of the hash, and with one change.
func TestMatchOfEveryLength(t *testing.T) {
	for size := range 200 {
		b := bytes.Repeat([]byte{byte(size)}, size)
		m := api.Manifest{Files: []api.File{{Name: "a"}, {Name: "b", Hash: sha256.Sum256(b)}, {Name: "c"}}}
		for i, c := range []struct {
			b    []byte
			want api.Errno
		}{
			{b, api.OK}, {append(slices.Clone(b), 0), api.ErrHash}, {append([]byte{0}, b...), api.ErrHash}, {append(slices.Clone(b), b...), api.ErrHash},
		} {
			if len(c.b) == 0 { // twice nothing
				c.want = api.OK
			}
			if e := manifest.Match(m, "b", c.b); e != c.want {
				t.Error(size, i, e)
			}
		}
		for i := range b {
			if e := manifest.Match(m, "b", withByte(b, i, b[i]^1)); e != api.ErrHash {
				t.Error(size, i, e)
			}
		}
	}
}

// Every bit of a hash counts.
func TestMatchOfChangedHashes(t *testing.T) {
	b := []byte("some bytes")
	for i := range 32 {
		for bit := range 8 {
			f := api.File{Name: "a", Hash: sha256.Sum256(b)}
			f.Hash[i] ^= 1 << bit
			if e := manifest.Match(api.Manifest{Files: []api.File{f}}, "a", b); e != api.ErrHash {
				t.Error(i, bit, e)
			}
		}
	}
}

// Of several files with one name, the first one counts; names need not be valid, nor in order.
func TestMatchOfWrongManifests(t *testing.T) {
	hash := func(s string) [32]byte { return sha256.Sum256([]byte(s)) }
	m := api.Manifest{This: 9, Next: 1, Files: []api.File{
		{Name: "z", Hash: hash("1")}, {Name: "b", Hash: hash("2")}, {Name: "b", Hash: hash("3")}, {Name: "a/b", Hash: hash("4")},
		{Name: "", Hash: hash("5")}, {Name: "z", Hash: hash("1")}, {Name: "", Hash: hash("6")}, {Name: "a/b", Hash: hash("7")}, {Name: "last", Hash: hash("8")},
	}}
	right := map[string]string{"z": "1", "b": "2", "a/b": "4", "": "5", "last": "8"}
	for _, name := range []string{"z", "b", "a/b", "", "last", "a", "y"} {
		for _, said := range []string{"", "1", "2", "3", "4", "5", "6", "7", "8"} {
			content, ok := right[name]
			want := api.ErrHash
			switch {
			case !ok:
				want = api.ErrNone
			case content == said:
				want = api.OK
			}
			if e := manifest.Match(m, name, []byte(said)); e != want {
				t.Errorf("%q %q %d, want %d", name, said, e, want)
			}
		}
	}
}

func TestMatchOfManyFiles(t *testing.T) {
	for _, l := range [][]api.File{many(400, 4), many(2000, 5)} {
		for i, f := range l {
			if e := manifest.Match(api.Manifest{Files: l}, f.Name, []byte{byte(i)}); e != api.OK {
				t.Error(i, e)
			}
			if e := manifest.Match(api.Manifest{Files: l}, f.Name, []byte{byte(i + 1)}); e != api.ErrHash {
				t.Error(i, e)
			}
		}
		if e := manifest.Match(api.Manifest{Files: l}, "none", []byte{0}); e != api.ErrNone {
			t.Error(e)
		}
	}
}

// P17.4

func TestReadOfMadeManifests(t *testing.T) {
	for _, m := range slices.Concat(valid(), randomManifests(8, 500)) {
		b, e := manifest.Make(m)
		got, reading := manifest.Read(b)
		if e != api.OK || reading != api.OK || !sameManifest(got, m) || !manifest.Right(got) {
			t.Fatalf("%+v %+v %d %d", m, got, e, reading)
		}
		if again, e := manifest.Make(got); e != api.OK || !bytes.Equal(again, b) {
			t.Fatalf("%+v %v %v %d", m, b, again, e)
		}
	}
}

// Of a manifest that has been made and read, each file matches just the bytes that its hash is of.
func TestMatchOfReadManifests(t *testing.T) {
	contents := []string{"", "a", "ab", "b", "abc", "\x00", strings.Repeat("a", 64), strings.Repeat("a", 65)}
	var m api.Manifest
	for i, content := range contents {
		m.Files = append(m.Files, api.File{Name: "file" + string(rune('a'+i)), Hash: sha256.Sum256([]byte(content))})
	}
	b, _ := manifest.Make(m)
	got, e := manifest.Read(b)
	if e != api.OK {
		t.Fatal(e)
	}
	for i, f := range got.Files {
		for j, content := range contents {
			want := api.OK
			if i != j {
				want = api.ErrHash
			}
			if e := manifest.Match(got, f.Name, []byte(content)); e != want {
				t.Error(i, j, e)
			}
		}
	}
}

// R3 and R4

// wipe changes all memory of a slice, also what is behind its last byte.
func wipe(b []byte) {
	b = b[:cap(b)]
	for i := range b {
		b[i] ^= 85
	}
}

func wipeFiles(l []api.File) {
	l = l[:cap(l)]
	for i := range l {
		l[i] = api.File{Name: "wiped", Hash: [32]byte{85}}
	}
}

// isUntouched reports whether m equals want, and nothing was written behind its last file, where cloneManifest left memory.
func isUntouched(m, want api.Manifest) bool {
	return sameManifest(m, want) && m.Files[:len(m.Files)+1][len(m.Files)] == api.File{}
}

func TestCallsKeepTheirArguments(t *testing.T) {
	for i, one := range slices.Concat(valid(), wrong()) {
		m, content := cloneManifest(one), slices.Grow([]byte{1, 2, 3}, 8)
		manifest.Right(m)
		b, _ := manifest.Make(m)
		kept := bytes.Clone(b)
		other, _ := manifest.Make(m)
		manifest.Current(m, 7)
		manifest.Match(m, "ca.crl", content)
		if !isUntouched(m, one) || !bytes.Equal(content[:4], []byte{1, 2, 3, 0}) {
			t.Fatal("an argument was changed:", i)
		}
		wipe(other)
		wipe(content)
		wipeFiles(m.Files)
		if !bytes.Equal(b, kept) {
			t.Fatal("a result shares memory:", i)
		}
	}
}

func TestReadKeepsItsArgument(t *testing.T) {
	for i, one := range valid() {
		b := slices.Grow(wantBytes(one), 8)
		kept := bytes.Clone(b)
		got, _ := manifest.Read(b)
		again, _ := manifest.Read(b)
		wipeFiles(got.Files)
		if !bytes.Equal(b, kept) || b[:len(b)+1][len(b)] != 0 || !sameManifest(again, one) {
			t.Fatal("a result shares memory:", i)
		}
		wipe(b)
		if !sameManifest(again, one) {
			t.Fatal("a result shares memory with the argument:", i)
		}
	}
}

// The same call returns the same again, also after calls that fail.
func TestCallsAreIndependent(t *testing.T) {
	b := wantBytes(ordinary())
	for range 3 {
		for i, m := range wrong() {
			if _, e := manifest.Make(m); manifest.Right(m) || e != api.ErrArg {
				t.Fatal("valid:", i)
			}
		}
		manifest.Read(b[1:])
		manifest.Current(ordinary(), 0)
		manifest.Match(ordinary(), "none", b)
		if got, e := manifest.Read(b); e != api.OK || !sameManifest(got, ordinary()) {
			t.Fatal(got, e)
		}
		if manifest.Current(ordinary(), ordinary().This) != api.OK || manifest.Match(ordinary(), "-", []byte("0-")) != api.OK || !manifest.Name("a") {
			t.Fatal("not the same again")
		}
	}
}
