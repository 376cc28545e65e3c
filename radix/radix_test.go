package radix_test

import (
	"bytes"
	"encoding/base64"
	"math/rand"
	"slices"
	"strings"
	"testing"

	"lanyard/radix"
)

const alphabet = "ABCDEFGHIJKLMNOPQRSTUVWXYZabcdefghijklmnopqrstuvwxyz0123456789+/"

// randomSlices are the same ones in every run.
func randomSlices(seed int64, many, most int) [][]byte {
	r := rand.New(rand.NewSource(seed))
	l := make([][]byte, many)
	for i := range l {
		l[i] = make([]byte, r.Intn(most+1))
		r.Read(l[i])
	}
	return l
}

// randomTexts have only characters of the given ones, so that rare cases are frequent.
func randomTexts(seed int64, many, most int, characters string) []string {
	r := rand.New(rand.NewSource(seed))
	l := make([]string, many)
	for i := range l {
		text := make([]byte, r.Intn(most+1))
		for j := range text {
			text[j] = characters[r.Intn(len(characters))]
		}
		l[i] = string(text)
	}
	return l
}

func refused(t *testing.T, s string) {
	t.Helper()
	if b, ok := radix.Decode(s); ok || b != nil {
		t.Errorf("Decode(%q) = %v, %v, want nil, false", s, b, ok)
	}
}

func decoded(t *testing.T, s string, want []byte) {
	t.Helper()
	if b, ok := radix.Decode(s); !ok || !bytes.Equal(b, want) {
		t.Errorf("Decode(%q) = %v, %v, want %v, true", s, b, ok, want)
	}
}

// P2.1 and P2.2

func TestKnownEncodings(t *testing.T) {
	for _, c := range []struct{ plain, text string }{
		{"", ""},
		{"f", "Zg=="},
		{"fo", "Zm8="},
		{"foo", "Zm9v"},
		{"foob", "Zm9vYg=="},
		{"fooba", "Zm9vYmE="},
		{"foobar", "Zm9vYmFy"},
		{"\x00", "AA=="},
		{"\x00\x00", "AAA="},
		{"\x00\x00\x00", "AAAA"},
		{"\xff", "/w=="},
		{"\xff\xff", "//8="},
		{"\xff\xff\xff", "////"},
		{"\xfb\xef\xbe", "++++"},
		{"\x00\x10\x83\x10\x51\x87", "ABCDEFGH"},
		{"\x80\x00\x01", "gAAB"},
		{"\x00\x00\x00\xff", "AAAA/w=="},
	} {
		if got := radix.Encode([]byte(c.plain)); got != c.text {
			t.Errorf("Encode(%q) = %q, want %q", c.plain, got, c.text)
		}
		decoded(t, c.text, []byte(c.plain))
	}
}

func TestEncodeTakesNilAsEmpty(t *testing.T) {
	if radix.Encode(nil) != "" || radix.Encode([]byte{}) != "" {
		t.Error("the encoding of no bytes is not empty")
	}
}

func TestEncodeWithEveryCharacter(t *testing.T) {
	for value := range 64 {
		for place := range 4 {
			bits := value << (18 - 6*place)
			b := []byte{byte(bits >> 16), byte(bits >> 8), byte(bits)}
			want := []byte("AAAA")
			want[place] = alphabet[value]
			if got := radix.Encode(b); got != string(want) {
				t.Errorf("Encode(%v) = %q, want %q", b, got, want)
			}
			decoded(t, string(want), b)
		}
	}
}

func TestEveryGroupOfOneOrTwoBytes(t *testing.T) {
	for n := range 1 << 16 {
		for _, b := range [][]byte{{byte(n >> 8), byte(n)}, {byte(n)}} {
			want := base64.StdEncoding.EncodeToString(b)
			if got := radix.Encode(b); got != want {
				t.Fatalf("Encode(%v) = %q, want %q", b, got, want)
			}
			if back, ok := radix.Decode(want); !ok || !bytes.Equal(back, b) {
				t.Fatalf("Decode(%q) = %v, %v, want %v", want, back, ok, b)
			}
		}
	}
}

func TestEncodeOfLongSlices(t *testing.T) {
	for _, b := range randomSlices(1, 300, 3000) {
		if got, want := radix.Encode(b), base64.StdEncoding.EncodeToString(b); got != want {
			t.Fatalf("Encode of %d bytes differs", len(b))
		}
	}
}

// P2.2: what is refused

func TestDecodeRefusesWrongLengths(t *testing.T) {
	for _, s := range []string{"A", "AA", "AAA", "Zg", "Zm8", "Zg=", "Zm9vY", "Zm9vYg", "Zm9vYg=", "Zm9vYmE", "=", "==", "===", "Zg===", "Zm8==", "Zm9v=", "Zm9v=="} {
		refused(t, s)
	}
}

func TestDecodeRefusesWrongPadding(t *testing.T) {
	for _, s := range []string{
		"====", "A===", "=AAA", "A=AA", "AA=A", "=A==", "A=A=", "==AA", "=AA=", "=A=A",
		"Zm9v====", "Zm9vA===", "Zm9v=AAA", "Zg==Zg==", "Zm8=Zm9v", "Zg==Zm9v", "Zm8=====", "Zg======", "========",
	} {
		refused(t, s)
	}
}

// Only every 16th, or every fourth, last character has the zero bits that Encode fills it up with.
func TestDecodeRefusesBitsThatAreNotZero(t *testing.T) {
	refused(t, "Zh==")
	for value := range 64 {
		sign := string(alphabet[value])
		for _, c := range []struct {
			text string
			ok   bool
		}{
			{"Z" + sign + "==", value%16 == 0},
			{"Zm9v/" + sign + "==", value%16 == 0},
			{"Zm" + sign + "=", value%4 == 0},
			{"Zm9v//" + sign + "=", value%4 == 0},
			{"Zm9" + sign, true},
		} {
			if b, ok := radix.Decode(c.text); ok != c.ok || !ok && b != nil {
				t.Errorf("Decode(%q) = %v, %v", c.text, b, ok)
			}
		}
	}
}

func TestDecodeRefusesOtherCharacters(t *testing.T) {
	for v := range 256 {
		isCharacter := strings.IndexByte(alphabet, byte(v)) >= 0
		for place := range 8 {
			text := []byte("AAAAAAAA")
			text[place] = byte(v)
			isPadding := v == '=' && place == 7
			if b, ok := radix.Decode(string(text)); ok != (isCharacter || isPadding) || !ok && b != nil {
				t.Errorf("Decode(%q) = %v, %v", text, b, ok)
			}
		}
	}
}

func TestDecodeSkipsNothing(t *testing.T) {
	for _, s := range []string{
		"Zm9v\n", "Zm9v\r\n", " Zm9v", "Zm9v    ", "\n\n\n\n", "    ", "Zm9\n", "Zm\n8=", "Zg==\n\n\n\n", "Zm9v\r\n\r\nZm9v",
		"Zm9v\x00\x00\x00\x00", "-___", "Zm-_", "Zg..", "Zm9é",
	} {
		refused(t, s)
	}
}

// P2.3

func TestBare(t *testing.T) {
	for _, c := range []struct{ text, want string }{
		{"", ""},
		{"a", "a"},
		{"\t\n\r ", ""},
		{" a b ", "ab"},
		{"\r\na\tb\n\nc\r", "abc"},
		{"Zm9v\r\nYmFy\r\n", "Zm9vYmFy"},
		{"\v\f\x00\x7f\u00a0\u2003\u0085", "\v\f\x00\x7f\u00a0\u2003\u0085"},
		{"\xff \xfe\xc3 \xa9", "\xff\xfe\xc3\xa9"},
	} {
		if got := radix.Bare(c.text); got != c.want {
			t.Errorf("Bare(%q) = %q, want %q", c.text, got, c.want)
		}
	}
}

func TestBareOmitsFourBytesOnly(t *testing.T) {
	for v := range 256 {
		isOmitted := v == 9 || v == 10 || v == 13 || v == 32
		for _, around := range []string{"", "x", "  "} {
			text := around + string([]byte{byte(v), byte(v)}) + around
			want := strings.ReplaceAll(text, " ", "")
			if isOmitted {
				want = strings.ReplaceAll(want, string([]byte{byte(v)}), "")
			}
			if got := radix.Bare(text); got != want {
				t.Errorf("Bare(%q) = %q, want %q", text, got, want)
			}
		}
	}
}

func TestLines(t *testing.T) {
	for _, c := range []struct {
		text string
		want []string
	}{
		{"", nil},
		{"a", []string{"a"}},
		{"a\n", []string{"a"}},
		{"a\r\n", []string{"a"}},
		{"a\r", []string{"a"}},
		{"a\nb", []string{"a", "b"}},
		{"a\nb\n", []string{"a", "b"}},
		{"a\r\nb\nc\r\n", []string{"a", "b", "c"}},
		{"\n", []string{""}},
		{"\r\n", []string{""}},
		{"\r", nil},
		{"\n\r", []string{""}},
		{"a\n\r", []string{"a"}},
		{"\n\n", []string{"", ""}},
		{"a\n\n", []string{"a", ""}},
		{"a\n\nb", []string{"a", "", "b"}},
		{"\n\na", []string{"", "", "a"}},
		{"\r\r", []string{"\r"}},
		{"\r\r\n", []string{"\r"}},
		{"a\r\r\n\r\r", []string{"a\r", "\r"}},
		{"a\rb\n\rc", []string{"a\rb", "\rc"}},
		{" a \n \n\t", []string{" a ", " ", "\t"}},
		{"\xff\n\xc3\n\xa9", []string{"\xff", "\xc3", "\xa9"}},
		{"a\x00\v\f\u0085\u2028b", []string{"a\x00\v\f\u0085\u2028b"}},
	} {
		if got := radix.Lines(c.text); !slices.Equal(got, c.want) {
			t.Errorf("Lines(%q) = %q, want %q", c.text, got, c.want)
		}
	}
}

// linesByScanning goes through the bytes one by one, another way than the package does.
func linesByScanning(s string) []string {
	var lines []string
	line := ""
	end := func(isLast bool) {
		if n := len(line); n > 0 && line[n-1] == 13 {
			line = line[:n-1]
		}
		if !isLast || line != "" {
			lines = append(lines, line)
		}
		line = ""
	}
	for i := range len(s) {
		if s[i] == 10 {
			end(false)
		} else {
			line += s[i : i+1]
		}
	}
	end(true)
	return lines
}

func TestLinesOfRandomTexts(t *testing.T) {
	for _, s := range randomTexts(2, 5000, 12, "a \r\n") {
		if got, want := radix.Lines(s), linesByScanning(s); !slices.Equal(got, want) {
			t.Fatalf("Lines(%q) = %q, want %q", s, got, want)
		}
	}
}

func TestLinesForEitherLineEnd(t *testing.T) {
	lines := []string{"one", "", " two ", "", "three"}
	for _, end := range []string{"\n", "\r\n"} {
		text := strings.Join(lines, end)
		for _, s := range []string{text, text + end} {
			if got := radix.Lines(s); !slices.Equal(got, lines) {
				t.Errorf("Lines(%q) = %q", s, got)
			}
		}
	}
}

// P2.4

func TestDecodeIsInverseToEncode(t *testing.T) {
	for _, b := range randomSlices(3, 1000, 200) {
		back, ok := radix.Decode(radix.Encode(b))
		if !ok || !bytes.Equal(back, b) {
			t.Fatalf("Decode(Encode(%v)) = %v, %v", b, back, ok)
		}
	}
}

func TestEncodeIsInverseToDecode(t *testing.T) {
	taken := 0
	for _, s := range randomTexts(4, 200000, 12, "AQgw/+z==") {
		b, ok := radix.Decode(s)
		if ok && radix.Encode(b) != s {
			t.Fatalf("Encode(Decode(%q)) = %q", s, radix.Encode(b))
		}
		lenient, err := base64.StdEncoding.DecodeString(s) // finds the bytes, if any have this encoding
		if want := err == nil && base64.StdEncoding.EncodeToString(lenient) == s; ok != want {
			t.Fatalf("Decode(%q) is %v", s, ok)
		}
		if ok {
			taken++
		}
	}
	if taken < 1000 {
		t.Errorf("only %d of the texts were encodings", taken)
	}
}

func TestEncodeConcatenatesGroups(t *testing.T) {
	for _, b := range randomSlices(5, 300, 300) {
		b = b[:len(b)/3*3]
		want := ""
		for group := range slices.Chunk(b, 3) {
			want += radix.Encode(group)
		}
		if got := radix.Encode(b); got != want {
			t.Fatalf("Encode(%v) = %q, want %q", b, got, want)
		}
		if strings.Contains(want, "=") || len(want) != len(b)/3*4 {
			t.Fatalf("the groups of %v are %q", b, want)
		}
	}
}

func TestEncodeOfWholeGroupsAndMore(t *testing.T) {
	for _, b := range randomSlices(6, 300, 50) {
		whole := b[:len(b)/3*3]
		rest := b[len(whole):]
		if got, want := radix.Encode(b), radix.Encode(whole)+radix.Encode(rest); got != want {
			t.Fatalf("Encode(%v) = %q, want %q", b, got, want)
		}
	}
}

// R3

func TestEncodeNeitherChangesNorKeepsItsArgument(t *testing.T) {
	room := []byte("foobar")
	text := radix.Encode(room[:4]) // what lies behind the slice is not the call's either
	if string(room) != "foobar" {
		t.Errorf("the bytes became %q", room)
	}
	copy(room, "xxxxxx")
	if text != "Zm9vYg==" {
		t.Errorf("the encoding became %q with the bytes", text)
	}
}

func TestResultsBelongToTheCaller(t *testing.T) {
	first, _ := radix.Decode("Zm9v")
	copy(first, "xxx")
	decoded(t, "Zm9v", []byte("foo"))

	lines := radix.Lines("a\nb\n")
	lines[0] = "x"
	lines = append(lines, "y")
	if again := radix.Lines("a\nb\n"); !slices.Equal(again, []string{"a", "b"}) || lines[2] != "y" {
		t.Errorf("the second result is %q", again)
	}
}
