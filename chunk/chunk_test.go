package chunk

import (
	"errors"
	"testing"

	"vellum/fault"
	"vellum/given"
)

func anyType(string) bool { return true }

func isMalformed(err error) bool {
	var malformed *fault.Malformed
	return errors.As(err, &malformed)
}

func TestOpen(t *testing.T) {
	const eight = "\x89PNG\r\n\x1a\n"
	from := &given.Source{Text: eight, Behind: fault.Failed}
	if err := New(from).Open(); err != nil || from.Asked != 8 {
		t.Errorf("%v, asked %d times", err, from.Asked)
	}
	for i := range 8 {
		b := []byte(eight[:i+1])
		b[i] ^= 0x20
		if err := New(&given.Source{Text: string(b), Behind: fault.Failed}).Open(); !isMalformed(err) {
			t.Errorf("%x: %v", b, err)
		}
	}
}

// Each part of a chunk is asked for when it is wanted, and not a byte ahead.
func TestChunksAreReadWithoutAskingAhead(t *testing.T) {
	from := &given.Source{Text: given.Chunk("IHDR", "data") + given.Chunk("teXt", ""), Behind: fault.Failed}
	r := New(from)
	if r.Number() != -1 {
		t.Errorf("ahead of all chunks: number %d", r.Number())
	}
	see := func(err error, number int, name string, left, asked int) {
		t.Helper()
		if err != nil || r.Number() != number || r.Type() != name || r.Left() != left || from.Asked != asked {
			t.Errorf("%v, number %d, type %s, %d left, asked %d times; want %d, %s, %d, %d", err, r.Number(), r.Type(), r.Left(), from.Asked, number, name, left, asked)
		}
	}
	see(r.Begin(anyType), 0, "IHDR", 4, 8)
	for i := range 2 {
		b, err := r.NextByte()
		see(err, 0, "IHDR", 3-i, 9+i)
		if b != "data"[i] {
			t.Errorf("byte %d is %q", i, b)
		}
	}
	see(r.Finish(), 0, "IHDR", 0, 16)
	see(r.Begin(anyType), 1, "teXt", 0, 24)
	if _, err := r.NextByte(); !errors.Is(err, fault.End) || from.Asked != 24 {
		t.Errorf("data of a chunk without data: %v, asked %d times", err, from.Asked)
	}
	see(r.Finish(), 1, "teXt", 0, 28)
	if err := r.End(); !errors.Is(err, fault.Failed) {
		t.Errorf("a source that fails behind the last chunk: %v", err)
	}
}

func TestNextGoesOnWhateverWasRead(t *testing.T) {
	for read := range 5 {
		r := New(&given.Source{Text: given.Chunk("abCd", "data") + given.Chunk("IEND", ""), Behind: fault.End})
		r.Begin(anyType)
		for range read {
			r.NextByte()
		}
		if err := r.Next(anyType); err != nil || r.Type() != "IEND" || r.Number() != 1 {
			t.Errorf("behind %d bytes of data: %v, type %s, number %d", read, err, r.Type(), r.Number())
		}
		if err := r.Finish(); err != nil {
			t.Error(err)
		}
		if err := r.End(); err != nil {
			t.Error(err)
		}
	}
}

func TestChunkThatEndsOrFailsAnywhere(t *testing.T) {
	text := given.Chunk("abCd", "data")
	for n := range len(text) {
		read := func(behind error) error {
			r := New(&given.Source{Text: text[:n], Behind: behind})
			if err := r.Begin(anyType); err != nil {
				return err
			}
			return r.Finish()
		}
		if err := read(fault.End); !isMalformed(err) {
			t.Errorf("it ends behind %d bytes: %v", n, err)
		}
		if err := read(fault.Failed); !errors.Is(err, fault.Failed) {
			t.Errorf("it fails behind %d bytes: %v", n, err)
		}
	}
}

// What is malformed is told as soon as it is read: the source fails right behind.
func TestMalformedIsToldAtOnce(t *testing.T) {
	for _, head := range []string{"\x80", "\xff", "\x00\x00\x00\x00@", "\x00\x00\x00\x00[", "\x00\x00\x00\x00a`", "\x00\x00\x00\x00A{", "\x00\x00\x00\x00ABc", "\x00\x00\x00\x00AB1", "\x00\x00\x00\x00ABC\xc1", "\x00\x00\x00\x00ABC!"} {
		if err := New(&given.Source{Text: head, Behind: fault.Failed}).Begin(anyType); !isMalformed(err) {
			t.Errorf("%q: %v", head, err)
		}
	}
	text := given.Chunk("abCd", "data")
	for i := len(text) - 4; i < len(text); i++ {
		b := []byte(text[:i+1])
		b[i] ^= 1
		r := New(&given.Source{Text: string(b), Behind: fault.Failed})
		r.Begin(anyType)
		if err := r.Finish(); !isMalformed(err) {
			t.Errorf("another sum, at byte %d: %v", i, err)
		}
	}
}

// The type, and how many bytes: the first byte that is another one settles it.
func TestBeginAs(t *testing.T) {
	text := given.Chunk("IHDR", "data")
	from := &given.Source{Text: text, Behind: fault.Failed}
	r := New(from)
	if err := r.BeginAs("IHDR", 4); err != nil || r.Number() != 0 || r.Type() != "IHDR" || r.Left() != 4 || from.Asked != 8 {
		t.Errorf("%v, number %d, type %s, %d left, asked %d times", err, r.Number(), r.Type(), r.Left(), from.Asked)
	}
	if err := r.Finish(); err != nil || from.Asked != len(text) {
		t.Errorf("%v, asked %d times", err, from.Asked)
	}
	for i := range 8 {
		b := []byte(text[:i+1])
		b[i] ^= 1
		if err := New(&given.Source{Text: string(b), Behind: fault.Failed}).BeginAs("IHDR", 4); !isMalformed(err) {
			t.Errorf("%q: %v", b, err)
		}
		if err := New(&given.Source{Text: text[:i], Behind: fault.Failed}).BeginAs("IHDR", 4); !errors.Is(err, fault.Failed) {
			t.Errorf("it fails behind %d bytes: %v", i, err)
		}
	}
}

// The first letter that no type has that may stand there settles it.
func TestTypesThatMayNotStandThere(t *testing.T) {
	may := func(letters string) bool { return IsSmall(letters) || OneOf(letters, "IDAT", "IEND", "PLTE") }
	for _, name := range []string{"IDAT", "IEND", "PLTE", "abCd", "tRNS", "iDAT", "zZZZ"} {
		r := New(&given.Source{Text: given.Four(0) + name, Behind: fault.Failed})
		if err := r.Begin(may); err != nil || r.Type() != name {
			t.Errorf("%s: %v, type %s", name, err, r.Type())
		}
	}
	for _, letters := range []string{"A", "J", "IH", "Id", "IDO", "IEA", "IDAD", "IENd", "PLTe", "PD"} {
		if err := New(&given.Source{Text: given.Four(0) + letters, Behind: fault.Failed}).Begin(may); !isMalformed(err) {
			t.Errorf("%s: %v", letters, err)
		}
		if err := New(&given.Source{Text: given.Four(0) + letters[:len(letters)-1], Behind: fault.Failed}).Begin(may); !errors.Is(err, fault.Failed) {
			t.Errorf("ahead of the last letter of %s: %v", letters, err)
		}
	}
}
