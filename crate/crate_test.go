package crate_test

import (
	"bytes"
	"hash/crc32"
	"math/rand"
	"testing"

	"ganger/api"
	"ganger/crate"
)

func put(t *testing.T, body []byte) []byte {
	t.Helper()
	b, e := crate.Put(body)
	if e != api.OK {
		t.Fatal(e)
	}
	return b
}

func random(r *rand.Rand, n int) []byte {
	b := make([]byte, n)
	r.Read(b)
	return b
}

func TestSum(t *testing.T) {
	for _, x := range []struct {
		b   []byte
		sum uint32
	}{{nil, 0}, {[]byte("123456789"), 0xe3069283}, {[]byte{0, 0}, 0xf16177d2}, {[]byte("a"), 0xc1d04330}} {
		if sum := crate.Sum(x.b); sum != x.sum {
			t.Errorf("Sum(%q) is %x", x.b, sum)
		}
	}
	r := rand.New(rand.NewSource(34))
	table := crc32.MakeTable(crc32.Castagnoli)
	for n := range 300 {
		b := random(r, n)
		if sum := crate.Sum(b); sum != crc32.Checksum(b, table) {
			t.Errorf("Sum(%x) is %x", b, sum)
		}
	}
}

func TestPut(t *testing.T) {
	if b := put(t, nil); !bytes.Equal(b, []byte{0xc5, 0, 0, 0xd2, 0x77, 0x61, 0xf1}) {
		t.Errorf("%x", b)
	}
	r := rand.New(rand.NewSource(35))
	for _, n := range []int{0, 1, 255, 256, 300, 7999, 8000} {
		body := random(r, n)
		kept := bytes.Clone(body)
		b := put(t, body)
		sum := crc32.Checksum(b[1:3+n], crc32.MakeTable(crc32.Castagnoli))
		want := append([]byte{0xc5, byte(n >> 8), byte(n)}, body...)
		want = append(want, byte(sum), byte(sum>>8), byte(sum>>16), byte(sum>>24))
		if !bytes.Equal(b, want) {
			t.Errorf("%x; want %x", b, want)
		}
		for i := range b {
			b[i] = 77
		}
		if !bytes.Equal(body, kept) {
			t.Error("Put changed its argument, or shares it")
		}
	}
	for _, n := range []int{8001, 65535, 65536, 70000} {
		if b, e := crate.Put(make([]byte, n)); len(b) != 0 || e != api.ErrLong {
			t.Error(n, len(b), e)
		}
	}
}

func TestGet(t *testing.T) {
	r := rand.New(rand.NewSource(36))
	for _, n := range []int{0, 1, 9, 255, 256, 8000} {
		body := random(r, n)
		for _, before := range []int{0, 1, 50} {
			for _, after := range []int{0, 1, 50} {
				b := append(append(random(r, before), put(t, body)...), random(r, after)...)
				kept := bytes.Clone(b)
				got, end, e := crate.Get(b, before)
				if e != api.OK || !bytes.Equal(got, body) || end != before+n+7 {
					t.Fatal(n, before, after, end, e)
				}
				for i := range got {
					got[i] = 77
				}
				if _ = append(got, 1, 2, 3, 4); !bytes.Equal(b, kept) {
					t.Fatal("Get changed its argument, or shares it")
				}
			}
		}
	}
}

func wantGet(t *testing.T, b []byte, at int, want api.Errno) {
	t.Helper()
	if body, end, e := crate.Get(b, at); len(body) != 0 || end != 0 || e != want {
		t.Errorf("Get of %d bytes at %d is %x, %d, %d; want %d", len(b), at, body, end, e, want)
	}
}

func TestGetRefuses(t *testing.T) {
	b := append(put(t, []byte("abc")), 0, 1, 0xc5)
	for _, at := range []int{-1, len(b) + 1, api.MinInt, api.MaxInt} {
		wantGet(t, b, at, api.ErrArg)
	}
	wantGet(t, nil, 0, api.ErrEmpty)
	wantGet(t, nil, 1, api.ErrArg)
	wantGet(t, nil, -1, api.ErrArg)
	wantGet(t, b, len(b), api.ErrEmpty)
	wantGet(t, b, 10, api.ErrEmpty)
	wantGet(t, []byte{0, 0xc5, 0, 0}, 0, api.ErrEmpty)
	wantGet(t, b, 11, api.ErrBad)
	wantGet(t, b, 12, api.ErrBad)
	wantGet(t, b, 1, api.ErrEmpty)
	wantGet(t, b, 3, api.ErrBad)
	for n := 1; n < 10; n++ {
		wantGet(t, b[:n], 0, api.ErrBad)
	}
}

func TestALengthAboveTheLimitIsBad(t *testing.T) {
	body := make([]byte, 8001)
	b := append([]byte{0xc5, 8001 >> 8, 8001 & 255}, body...)
	sum := crc32.Checksum(b[1:], crc32.MakeTable(crc32.Castagnoli))
	b = append(b, byte(sum), byte(sum>>8), byte(sum>>16), byte(sum>>24))
	wantGet(t, b, 0, api.ErrBad)
	wantGet(t, append([]byte{0xc5, 255, 255}, make([]byte, 70000)...), 0, api.ErrBad)
}

func TestAnInvertedBitIsBad(t *testing.T) {
	r := rand.New(rand.NewSource(37))
	for _, n := range []int{0, 1, 2, 40} {
		b := put(t, random(r, n))
		for i := 8 * 3; i < 8*len(b); i++ {
			hurt := bytes.Clone(b)
			hurt[i/8] ^= 1 << (i % 8)
			wantGet(t, hurt, 0, api.ErrBad)
			hurt = append(bytes.Clone(b), hurt...)
			bodies, at, e := crate.All(hurt)
			if len(bodies) != 1 || at != len(b) || e != api.ErrBad {
				t.Error(len(bodies), at, e)
			}
		}
		for i := range 8 {
			hurt := bytes.Clone(b)
			if hurt[0] ^= 1 << i; hurt[0] != 0 {
				wantGet(t, hurt, 0, api.ErrBad)
			}
		}
	}
}

func TestAll(t *testing.T) {
	r := rand.New(rand.NewSource(38))
	bodies, b := [][]byte{}, []byte{}
	for n := range 12 {
		for _, x := range []struct {
			tail []byte
			e    api.Errno
		}{{nil, api.OK}, {[]byte{0}, api.OK}, {[]byte{0, 0xc5, 1}, api.OK}, {[]byte{1}, api.ErrBad}, {[]byte{0xc5}, api.ErrBad}, {[]byte{0xc5, 0, 0, 0xd2, 0x77, 0x61}, api.ErrBad}, {[]byte{0xc5, 0, 0, 0xd2, 0x77, 0x61, 0xf0}, api.ErrBad}} {
			whole := append(bytes.Clone(b), x.tail...)
			kept := bytes.Clone(whole)
			got, at, e := crate.All(whole)
			if len(got) != n || at != len(b) || e != x.e {
				t.Error(n, x, len(got), at, e)
				continue
			}
			for i, body := range got {
				if !bytes.Equal(body, bodies[i]) {
					t.Error(n, i, body)
				}
				for j := range body {
					body[j] = 77
				}
				_ = append(body, 1, 2, 3)
			}
			if !bytes.Equal(whole, kept) {
				t.Error("All changed its argument, or shares it")
			}
		}
		bodies = append(bodies, random(r, n*n%7*50))
		b = append(b, put(t, bodies[n])...)
	}
}
