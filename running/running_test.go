package running

import (
	"hash/adler32"
	"hash/crc32"
	"testing"
)

func TestAdlerOfNoBytes(t *testing.T) {
	if NoBytes != 1 {
		t.Errorf("P4: the sum of no byte is %d, want 1", NoBytes)
	}
}

// From sums of all sorts, their greatest among them, with every byte.
func TestAdlerAddIsAsTheDocumentWordsIt(t *testing.T) {
	values := []uint32{0, 1, 2, 255, 256, 32768, 65265, 65266, 65519, 65520}
	for _, a := range values {
		for _, b := range values {
			for c := range uint32(256) {
				wantA := (a + c) % 65521
				wantB := (b + wantA) % 65521
				got := Adler(b<<16 | a).Add(byte(c))
				if uint32(got) != 65536*wantB+wantA {
					t.Fatalf("P4: from %d, %d with %d: %d, %d, want %d, %d", a, b, c, got&0xffff, got>>16, wantA, wantB)
				}
			}
		}
	}
}

func TestAdlerAfterEachByte(t *testing.T) {
	row := make([]byte, 3000)
	sum := NoBytes
	for i := range row {
		row[i] = byte(255 - i%3)
		sum = sum.Add(row[i])
		if want := adler32.Checksum(row[:i+1]); uint32(sum) != want {
			t.Fatalf("P4: of %d bytes: %d, want %d", i+1, sum, want)
		}
	}
}

// From sums of all sorts, with every byte, by the document's eight steps.
func TestCrcAddIsAsTheDocumentWordsIt(t *testing.T) {
	for _, sum := range []uint32{0, 1, 255, 256, 0x80000000, 0xffffffff, 0x12345678, 0xedb88320, 3421780262} {
		for c := range uint32(256) {
			rest := ^sum ^ c
			for range 8 {
				lowest := rest & 1
				rest >>= 1
				if lowest == 1 {
					rest ^= 3988292384
				}
			}
			if got := Crc(sum).Add(byte(c)); uint32(got) != ^rest {
				t.Fatalf("P3: from %d with %d: %d, want %d", sum, c, got, ^rest)
			}
		}
	}
}

func TestCrcAfterEachByte(t *testing.T) {
	row := make([]byte, 3000)
	var sum Crc
	for i := range row {
		row[i] = byte(7*i + i/256)
		sum = sum.Add(row[i])
		if want := crc32.ChecksumIEEE(row[:i+1]); uint32(sum) != want {
			t.Fatalf("P3: of %d bytes: %d, want %d", i+1, sum, want)
		}
	}
}
