package sha_test

import (
	"bytes"
	"encoding/hex"
	"strings"
	"testing"

	"quaestor/api"
	"quaestor/sha"
)

func TestHex(t *testing.T) {
	texts := []struct {
		b    []byte
		text string
	}{
		{nil, ""},
		{[]byte{}, ""},
		{[]byte{0}, "00"},
		{[]byte{0x0f, 0xf0}, "0ff0"},
		{[]byte{0x01, 0x23, 0x45, 0x67, 0x89, 0xab, 0xcd, 0xef}, "0123456789abcdef"},
		{[]byte{0xff, 0, 0xff}, "ff00ff"},
		{[]byte("abc"), "616263"},
	}
	for _, x := range texts {
		if got := sha.Hex(x.b); got != x.text {
			t.Errorf("Hex(% x) = %q, want %q", x.b, got, x.text)
		}
		if got, e := sha.Unhex(x.text); !bytes.Equal(got, x.b) || e != api.OK {
			t.Errorf("Unhex(%q) = % x, %d, want % x", x.text, got, e, x.b)
		}
	}
}

func TestHexOfEachByte(t *testing.T) {
	for c := range 256 {
		b := []byte{byte(c)}
		text := sha.Hex(b)
		if text != hex.EncodeToString(b) {
			t.Errorf("Hex(%x) = %q", b, text)
		}
		if got, e := sha.Unhex(text); !bytes.Equal(got, b) || e != api.OK {
			t.Errorf("Unhex(%q) = %x, %d", text, got, e)
		}
	}
	b := some(5000)
	if got := sha.Hex(b); got != hex.EncodeToString(b) {
		t.Errorf("Hex of 5000 bytes is %q", got)
	}
	if got, e := sha.Unhex(sha.Hex(b)); !bytes.Equal(got, b) || e != api.OK {
		t.Errorf("Unhex of 10000 digits is %x, %d", got, e)
	}
}

// Each pair of bytes as a text: there are bytes for it only if it is what Hex answers for them.
func TestUnhexOfEachPair(t *testing.T) {
	const lower = "0123456789abcdef"
	for high := range 256 {
		for low := range 256 {
			text := string([]byte{byte(high), byte(low)})
			h, l := strings.IndexByte(lower, byte(high)), strings.IndexByte(lower, byte(low))
			got, e := sha.Unhex(text)
			if h < 0 || l < 0 {
				if len(got) != 0 || e != api.ErrForm {
					t.Fatalf("Unhex(%q) = %x, %d, want ErrForm", text, got, e)
				}
			} else if !bytes.Equal(got, []byte{byte(h<<4 | l)}) || e != api.OK {
				t.Fatalf("Unhex(%q) = %x, %d", text, got, e)
			}
		}
	}
}

func TestUnhexErrors(t *testing.T) {
	wrong := []string{
		"0", "a", "g", "000", "0011f", "ABCD", "aB", "Ff", "0x", "0x00", " 00", "00 ", "0 0 ", "00\n", "00\n\n",
		"0g", "g0", "00g0", "000g", "-1", "+1", "1e+1", "00,1", "\x00\x00", "é", "00é", "éé", "０", "\xff\xff", "0/", "0:", "0`", "/0", ":0", "`0", "@0",
		strings.Repeat("00", 1000) + "0", strings.Repeat("00", 1000) + "0A",
	}
	for _, text := range wrong {
		if got, e := sha.Unhex(text); len(got) != 0 || e != api.ErrForm {
			t.Errorf("Unhex(%q) = %x, %d, want ErrForm", text, got, e)
		}
	}
}

// What is handed in stays as it is; what is answered may be written over, and nothing else changes by it.
func TestHexMemory(t *testing.T) {
	memory := some(20)
	text := sha.Hex(memory[:10])
	if !bytes.Equal(memory, some(20)) {
		t.Fatal("bytes that were handed in are others")
	}
	clear(memory)
	if text != hex.EncodeToString(some(20)[:10]) {
		t.Error("a text changed with the bytes that it was made of")
	}
	b, _ := sha.Unhex(text)
	clear(b[:cap(b)])
	if again, e := sha.Unhex(text); !bytes.Equal(again, some(20)[:10]) || e != api.OK {
		t.Errorf("Unhex(%q) = %x, %d behind a change of its answer", text, again, e)
	}
}
