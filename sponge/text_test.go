package sponge_test

import (
	"encoding/hex"
	"math/rand"
	"strings"
	"testing"

	"burgage/api"
	"burgage/sponge"
)

const digits = "0123456789abcdef"

// P3.1 (C4): the digits of each byte at each place, the most significant one first.
func TestPrint(t *testing.T) {
	for i := range 32 {
		for x := range 256 {
			s := api.Sum(full(32, 0x5a))
			s[i] = byte(x)
			want := strings.Repeat("5a", i) + digits[x/16:x/16+1] + digits[x%16:x%16+1] + strings.Repeat("5a", 31-i)
			if got := sponge.Print(s); got != want {
				t.Fatalf("Print of the byte %d at %d: %q", x, i, got)
			}
			if got, err := sponge.Parse(want); got != s || err != api.OK {
				t.Fatalf("Parse of %q: %x, %v", want, got, err)
			}
		}
	}
	if got := sponge.Print(api.Sum{}); got != strings.Repeat("0", 64) {
		t.Errorf("Print of zeros: %q", got)
	}
}

// P3.1 (C4), and P1 of the document: texts with more or fewer digits, and other signs.
func TestParseOthers(t *testing.T) {
	const right = "0123456789abcdef0123456789abcdef0123456789abcdef0123456789abcdef"
	for _, s := range []string{
		"", "0", "00", right[:32], right[:62], right[:63], right[1:], right + "0", "0" + right, right + "00", right + right,
		right[:63] + "\n", right + "\n", " " + right, right + " ", " " + right[1:], right[:63] + " ", "0x" + right, "0x" + right[2:], "+" + right[1:], "-" + right[1:],
		strings.ToUpper(right), right[:63] + "F", "A" + right[1:], right[:10] + "B" + right[11:],
		right[:63] + "g", "g" + right[1:], right[:63] + "`", right[:63] + ":", right[:63] + "/", right[:63] + "@", right[:63] + "\x00", strings.Repeat("_", 64),
		right[:62] + "é", "é" + right[2:], right[:63] + "é", right[:61] + "ａ", right[:61] + "٣٣", right[:63] + "\x80", right[:63] + "\xff", strings.Repeat("é", 32), strings.Repeat("é", 64), strings.Repeat("\xb0", 64),
		strings.Repeat("0", 1000000), strings.Repeat("0", 128), strings.Repeat("0", 64+256), strings.Repeat("\xff", 64),
	} {
		if got, err := sponge.Parse(s); got != (api.Sum{}) || err != api.ErrForm {
			t.Errorf("Parse of %.100q: %x, %v", s, got, err)
		}
	}
	for n := range 300 {
		got, err := sponge.Parse(strings.Repeat("f", n))
		if n == 64 && (err != api.OK || got != api.Sum(full(32, 255))) || n != 64 && (err != api.ErrForm || got != (api.Sum{})) {
			t.Errorf("Parse of %d digits: %x, %v", n, got, err)
		}
	}
}

// P3.1 (C4) and P3.4: each byte at each place of a text is a digit, or makes it none.
func TestParse(t *testing.T) {
	g := rand.New(rand.NewSource(12))
	text := []byte(hex.EncodeToString(someBytes(g, 32)))
	for i, was := range text {
		for x := range 256 {
			text[i] = byte(x)
			s := string(text)
			got, err := sponge.Parse(s)
			if strings.IndexByte(digits, byte(x)) < 0 {
				if got != (api.Sum{}) || err != api.ErrForm {
					t.Fatalf("Parse of %q: %x, %v", s, got, err)
				}
				continue
			}
			if want, _ := hex.DecodeString(s); got != api.Sum(want) || err != api.OK {
				t.Fatalf("Parse of %q: %x, %v", s, got, err)
			}
			if again := sponge.Print(got); again != s {
				t.Fatalf("Print of what was read of %q: %q", s, again)
			}
		}
		text[i] = was
	}
}

// P3.4: a hash is that of its text, and other hashes have other texts.
func TestTexts(t *testing.T) {
	g := rand.New(rand.NewSource(13))
	seen := map[string]api.Sum{}
	try := func(s api.Sum) {
		text := sponge.Print(s)
		if text != hex.EncodeToString(s[:]) {
			t.Fatalf("Print of %x: %q", s, text)
		}
		if got, err := sponge.Parse(text); got != s || err != api.OK {
			t.Fatalf("Parse of %q: %x, %v", text, got, err)
		}
		if other, is := seen[text]; is && other != s {
			t.Fatalf("%x and %x have one text", s, other)
		}
		seen[text] = s
	}
	for range 5000 {
		s := someSum(g)
		try(s)
		s[g.Intn(32)] ^= 1 << g.Intn(8)
		try(s)
	}
	for i := range 256 {
		var s api.Sum
		s[i/8] = 1 << (i % 8)
		try(s)
		try(api.Sum(full(32, byte(i))))
	}
}
