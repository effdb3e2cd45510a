package device_test

import (
	"bytes"
	"math"
	"testing"

	"wainscot/api"
	"wainscot/device"
)

// of is a block of one byte, repeated.
func of(c byte) []byte { return bytes.Repeat([]byte{c}, api.Block) }

// mixed is a block that begins with k bytes of one kind, and goes on with another one.
func mixed(k int, c, rest byte) []byte {
	return append(bytes.Repeat([]byte{c}, k), bytes.Repeat([]byte{rest}, api.Block-k)...)
}

func answers(t *testing.T, what string, got, want api.Errno) {
	t.Helper()
	if got != want {
		t.Errorf("%s: %v, not %v", what, got, want)
	}
}

func writes(t *testing.T, d *device.Device, n int, b []byte) {
	t.Helper()
	if e := d.Write(n, b); e != api.OK {
		t.Fatalf("Write %d: %v", n, e)
	}
}

func flushes(t *testing.T, d *device.Device) {
	t.Helper()
	if e := d.Flush(); e != api.OK {
		t.Fatalf("Flush: %v", e)
	}
}

func reads(t *testing.T, d *device.Device, n int, want []byte) {
	t.Helper()
	if b, e := d.Read(n); e != api.OK || !bytes.Equal(b, want) {
		t.Errorf("Read %d: %.8q.. %v; want %.8q..", n, b, e, want)
	}
}

// readsNot asks for an error, with nothing beside it.
func readsNot(t *testing.T, d *device.Device, n int, want api.Errno) {
	t.Helper()
	if b, e := d.Read(n); e != want || len(b) != 0 {
		t.Errorf("Read %d: %d bytes, %v; want %v", n, len(b), e, want)
	}
}

// told asks for what a device tells of itself.
func told(t *testing.T, d *device.Device, up bool, calls, loose int) {
	t.Helper()
	if d.Up() != up || d.Calls() != calls || d.Loose() != loose {
		t.Errorf("up %v, %d calls, %d loose; want %v, %d, %d", d.Up(), d.Calls(), d.Loose(), up, calls, loose)
	}
}

// TestSizes (B1): less than 1 counts as 1, more than 2^32 as that; there are just the blocks from 0 on below that.
func TestSizes(t *testing.T) {
	for _, c := range []struct{ blocks, want int }{
		{math.MinInt, 1}, {-1, 1}, {0, 1}, {1, 1}, {2, 2}, {1000, 1000},
		{1<<32 - 1, 1<<32 - 1}, {1 << 32, 1 << 32}, {1<<32 + 1, 1 << 32}, {math.MaxInt, 1 << 32},
	} {
		d := device.New(c.blocks)
		if d.Blocks() != c.want {
			t.Errorf("New(%d): %d blocks, not %d", c.blocks, d.Blocks(), c.want)
		}
		told(t, d, true, 0, 0)
		last := c.want - 1
		reads(t, d, 0, of(0))
		reads(t, d, last, of(0))
		for _, n := range []int{0, last} {
			writes(t, d, n, of('a'))
			reads(t, d, n, of('a'))
		}
		for _, n := range []int{-1, last + 1, last + 2, math.MinInt, math.MaxInt} {
			readsNot(t, d, n, api.EArg)
			answers(t, "Write", d.Write(n, of('b')), api.EArg)
		}
		flushes(t, d)
		reads(t, d, 0, of('a'))
		reads(t, d, last, of('a'))
	}
}

// TestWrongBlocks (B1): Write refuses what has not 512 bytes, and changes nothing then.
func TestWrongBlocks(t *testing.T) {
	d := device.New(3)
	writes(t, d, 1, of('a'))
	flushes(t, d)
	wrong := [][]byte{nil, {}, of('b')[:1], of('b')[:511], append(of('b'), 'b'), append(of('b'), of('b')...)}
	for i, b := range wrong {
		answers(t, "Write", d.Write(1, b), api.EArg)
		answers(t, "Write nowhere", d.Write(3, b), api.EArg)
		told(t, d, true, 4+2*i, 0)
		reads(t, d, 1, of('a'))
	}
	// Of a block that is loose the newest content stays too.
	writes(t, d, 1, of('c'))
	for _, b := range wrong {
		answers(t, "Write", d.Write(1, b), api.EArg)
	}
	if d.Loose() != 1 {
		t.Errorf("%d loose", d.Loose())
	}
	reads(t, d, 1, of('c'))
}

// TestNewest (B1): Read tells the newest content, flushed or not; other blocks stay.
func TestNewest(t *testing.T) {
	d := device.New(4)
	for n := range 4 {
		reads(t, d, n, of(0))
	}
	writes(t, d, 2, of('a'))
	told(t, d, true, 1, 1)
	reads(t, d, 2, of('a'))
	writes(t, d, 2, of('b'))
	told(t, d, true, 2, 1)
	reads(t, d, 2, of('b'))
	flushes(t, d)
	told(t, d, true, 3, 0)
	reads(t, d, 2, of('b'))
	writes(t, d, 2, mixed(100, 'c', 'd'))
	reads(t, d, 2, mixed(100, 'c', 'd'))
	flushes(t, d)
	flushes(t, d)
	reads(t, d, 2, mixed(100, 'c', 'd'))
	for _, n := range []int{0, 1, 3} {
		reads(t, d, n, of(0))
	}
}

// TestLooseWithoutChange (B1): a block is loose once it is written, also where nothing changes.
func TestLooseWithoutChange(t *testing.T) {
	d := device.New(4)
	writes(t, d, 3, of(0))
	told(t, d, true, 1, 1)
	flushes(t, d)
	writes(t, d, 1, of('a'))
	flushes(t, d)
	writes(t, d, 1, of('a'))
	told(t, d, true, 5, 1)
	// It takes its place in the order: the block behind it is the second one.
	writes(t, d, 2, of('b'))
	d.Crash(2, -1, 0)
	d.Start()
	reads(t, d, 1, of('a'))
	reads(t, d, 2, of('b'))
}

// TestExample (B2): the chapter's example.
func TestExample(t *testing.T) {
	d := device.New(4)
	writes(t, d, 0, of('a'))
	flushes(t, d)
	writes(t, d, 0, of('b'))
	writes(t, d, 1, of('c'))
	d.Crash(2, 0, 3)
	d.Start()
	reads(t, d, 0, mixed(3, 'b', 'a'))
	reads(t, d, 1, of('c'))
}

// TestDown (B1, B2, B3): a device that is down answers EIO, whatever is asked, counts nothing, and does not crash again.
func TestDown(t *testing.T) {
	d := device.New(3)
	told(t, d, true, 0, 0)
	writes(t, d, 0, of('a'))
	flushes(t, d)
	writes(t, d, 0, of('b'))
	writes(t, d, 1, of('c'))
	d.Crash(0, 0, 0)
	told(t, d, false, 4, 0)
	for _, n := range []int{-1, 0, 1, 2, 3} {
		readsNot(t, d, n, api.EIO)
		answers(t, "Write", d.Write(n, of('d')), api.EIO)
		answers(t, "Write of none", d.Write(n, nil), api.EIO)
	}
	answers(t, "Flush", d.Flush(), api.EIO)
	d.Crash(math.MaxUint64, 0, 512)
	told(t, d, false, 4, 0)
	if d.Blocks() != 3 {
		t.Errorf("%d blocks", d.Blocks())
	}
	d.Start()
	told(t, d, true, 4, 0)
	reads(t, d, 0, of('a'))
	reads(t, d, 1, of(0))
	reads(t, d, 2, of(0))
	writes(t, d, 1, of('e'))
	told(t, d, true, 5, 1)
}

// TestStartWhileUp (B2): Start changes nothing of a device that is up.
func TestStartWhileUp(t *testing.T) {
	d := device.New(2)
	d.Arm(3, 0, 0, 0)
	writes(t, d, 0, of('a'))
	d.Start()
	told(t, d, true, 1, 1)
	reads(t, d, 0, of('a'))
	writes(t, d, 1, of('b'))
	answers(t, "armed", d.Flush(), api.EIO)
}

// TestCrashOfNothing (B2): with nothing loose nothing is lost, but the device is down.
func TestCrashOfNothing(t *testing.T) {
	d := device.New(2)
	d.Crash(math.MaxUint64, 0, 512)
	told(t, d, false, 0, 0)
	d.Start()
	writes(t, d, 1, of('a'))
	flushes(t, d)
	d.Crash(0, 0, 0)
	d.Crash(0, 0, 0)
	d.Start()
	reads(t, d, 0, of(0))
	reads(t, d, 1, of('a'))
}

// TestMask (B2): each loose block stays just if its bit is 1, in the order in which each became loose.
func TestMask(t *testing.T) {
	order := []int{3, 0, 2}
	for mask := range uint64(16) {
		d := device.New(5)
		for n := range 5 {
			writes(t, d, n, of('0'+byte(n)))
		}
		flushes(t, d)
		for _, n := range order {
			writes(t, d, n, of('A'+byte(n)))
		}
		// Written once more, they keep their places.
		writes(t, d, 2, of('x'))
		writes(t, d, 3, of('y'))
		writes(t, d, 0, of('z'))
		d.Crash(mask, -1, 100)
		d.Start()
		newest := map[int]byte{3: 'y', 0: 'z', 2: 'x'}
		for i, n := range order {
			want := of('0' + byte(n))
			if mask>>i&1 == 1 {
				want = of(newest[n])
			}
			reads(t, d, n, want)
		}
		reads(t, d, 1, of('1'))
		reads(t, d, 4, of('4'))
	}
}

// TestOrderBegins (B2): a flush, and a crash, begin the order anew.
func TestOrderBegins(t *testing.T) {
	d := device.New(3)
	writes(t, d, 0, of('a'))
	writes(t, d, 1, of('b'))
	flushes(t, d)
	writes(t, d, 1, of('c'))
	writes(t, d, 0, of('d'))
	d.Crash(1, -1, 0)
	d.Start()
	reads(t, d, 0, of('a'))
	reads(t, d, 1, of('c'))
	writes(t, d, 0, of('e'))
	writes(t, d, 1, of('f'))
	d.Crash(1, -1, 0)
	d.Start()
	reads(t, d, 0, of('e'))
	reads(t, d, 1, of('c'))
}

// TestTorn (B2): of the torn block just so many bytes are new, whatever its bit is.
func TestTorn(t *testing.T) {
	for _, c := range []struct{ bytes, stay int }{
		{math.MinInt, 0}, {-1, 0}, {0, 0}, {1, 1}, {100, 100}, {511, 511}, {512, 512}, {513, 512}, {math.MaxInt, 512},
	} {
		for _, mask := range []uint64{0, math.MaxUint64} {
			for torn := range 2 {
				d := device.New(2)
				writes(t, d, 0, of('a'))
				writes(t, d, 1, of('b'))
				flushes(t, d)
				writes(t, d, 1, of('c'))
				writes(t, d, 1, of('d'))
				writes(t, d, 0, of('e'))
				d.Crash(mask, torn, c.bytes)
				d.Start()
				want := [][]byte{of('b'), of('a')}
				if mask != 0 {
					want = [][]byte{of('d'), of('e')}
				}
				want[torn] = mixed(c.stay, []byte("de")[torn], []byte("ba")[torn])
				reads(t, d, 1, want[0])
				reads(t, d, 0, want[1])
			}
		}
	}
}

// TestTornNew (B2): behind the new bytes of a block that was never flushed there are noughts.
func TestTornNew(t *testing.T) {
	d := device.New(2)
	writes(t, d, 1, of('a'))
	d.Crash(1, 0, 7)
	d.Start()
	reads(t, d, 1, mixed(7, 'a', 0))
	// That is flushed: another crash takes nothing of it.
	d.Crash(0, 0, 0)
	d.Start()
	reads(t, d, 1, mixed(7, 'a', 0))
}

// TestTornNowhere (B2): there may be no block that is torn.
func TestTornNowhere(t *testing.T) {
	for _, torn := range []int{math.MinInt, -64, -1, 2, 64, 65, math.MaxInt} {
		d := device.New(2)
		writes(t, d, 0, of('a'))
		writes(t, d, 1, of('b'))
		d.Crash(2, torn, 5)
		d.Start()
		reads(t, d, 0, of(0))
		reads(t, d, 1, of('b'))
	}
}

// TestManyLoose (B2): the bits of the mask begin anew behind 64 loose blocks, but torn is one block alone.
func TestManyLoose(t *testing.T) {
	const mask = 1<<0 | 1<<5 | 1<<63
	for _, torn := range []int{-1, 5, 64, 66, 191} {
		d := device.New(200)
		for i := range 192 {
			writes(t, d, 199-i, of(byte(i)+1))
		}
		if d.Loose() != 192 {
			t.Errorf("%d loose", d.Loose())
		}
		d.Crash(mask, torn, 300)
		d.Start()
		for i := range 192 {
			want := of(0)
			switch {
			case i == torn:
				want = mixed(300, byte(i)+1, 0)
			case i%64 == 0 || i%64 == 5 || i%64 == 63:
				want = of(byte(i) + 1)
			}
			reads(t, d, 199-i, want)
		}
	}
}

// TestFlushedStays (B2): what was flushed and not written since is there behind any crash.
func TestFlushedStays(t *testing.T) {
	d := device.New(3)
	writes(t, d, 0, of('a'))
	writes(t, d, 1, of('b'))
	flushes(t, d)
	writes(t, d, 2, of('c'))
	for range 3 {
		d.Crash(0, 0, 512)
		d.Start()
	}
	reads(t, d, 0, of('a'))
	reads(t, d, 1, of('b'))
	reads(t, d, 2, of('c'))
}

// TestOwners (R1): what is handed in, and what comes out, is its owner's.
func TestOwners(t *testing.T) {
	d := device.New(2)
	b := of('a')
	writes(t, d, 0, b)
	b[0] = 'z'
	reads(t, d, 0, of('a'))
	spoil := func(n int) {
		got, _ := d.Read(n)
		for i := range got {
			got[i] = 'y'
		}
		_ = append(got, 'y')
	}
	spoil(0)
	reads(t, d, 0, of('a'))
	flushes(t, d)
	b[1] = 'z'
	spoil(0)
	reads(t, d, 0, of('a'))
	spoil(1)
	reads(t, d, 1, of(0))
	wide := append(of('c'), 'd')
	writes(t, d, 1, wide[:512])
	if wide[512] != 'd' {
		t.Errorf("written behind what was handed in")
	}
	d.Crash(1, 0, 4)
	d.Start()
	spoil(1)
	reads(t, d, 1, mixed(4, 'c', 0))
}

// TestApart (R3): two devices have nothing to do with each other.
func TestApart(t *testing.T) {
	d, e := device.New(2), device.New(2)
	d.Arm(1, 0, 0, 0)
	writes(t, e, 0, of('a'))
	flushes(t, e)
	answers(t, "armed", d.Write(0, of('b')), api.EIO)
	told(t, d, false, 1, 0)
	told(t, e, true, 2, 0)
	d.Start()
	reads(t, d, 0, of(0))
	reads(t, e, 0, of('a'))
}
