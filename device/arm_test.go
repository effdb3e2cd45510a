package device_test

import (
	"bytes"
	"math"
	"testing"

	"wainscot/api"
	"wainscot/device"
)

// TestCounts (B3): calls of Write and Flush count while the device is up, whatever they answer; no others do.
func TestCounts(t *testing.T) {
	d := device.New(2)
	for i, f := range []struct {
		name   string
		do     func()
		counts int
	}{
		{"Write", func() { d.Write(0, of('a')) }, 1},
		{"Write again", func() { d.Write(0, of('a')) }, 1},
		{"Write beside", func() { d.Write(2, of('a')) }, 1},
		{"Write below", func() { d.Write(-1, of('a')) }, 1},
		{"Write short", func() { d.Write(1, of('a')[1:]) }, 1},
		{"Flush", func() { d.Flush() }, 1},
		{"Flush of nothing", func() { d.Flush() }, 1},
		{"Read", func() { d.Read(0) }, 0},
		{"Read beside", func() { d.Read(2) }, 0},
		{"Blocks, Up, Loose, Calls", func() { d.Blocks(); d.Up(); d.Loose(); d.Calls() }, 0},
		{"Clone", func() { d.Clone().Flush() }, 0},
		{"Arm", func() { d.Arm(9, 0, 0, 0) }, 0},
		{"Crash", func() { d.Crash(0, 0, 0) }, 0},
		{"Write down", func() { d.Write(0, of('a')) }, 0},
		{"Flush down", func() { d.Flush() }, 0},
		{"Start", func() { d.Start() }, 0},
		{"Arm 1", func() { d.Arm(1, 0, 0, 0) }, 0},
		{"Write that crashes", func() { d.Write(0, of('a')) }, 1},
		{"Start again", func() { d.Start() }, 0},
		{"Flush that crashes", func() { d.Arm(1, 0, 0, 0); d.Flush() }, 1},
	} {
		before := d.Calls()
		f.do()
		if d.Calls() != before+f.counts {
			t.Errorf("%d, %s: %d calls, then %d", i, f.name, before, d.Calls())
		}
	}
}

// TestArm (B3): the n-th call that counts does nothing but a crash.
func TestArm(t *testing.T) {
	for n := 1; n <= 6; n++ {
		d := device.New(8)
		writes(t, d, 7, of('a'))
		d.Arm(n, 1, 1, 9)
		for i := 1; i < n; i++ {
			writes(t, d, i, of('b'))
			d.Read(i)
		}
		told(t, d, true, n, n)
		answers(t, "Write that crashes", d.Write(0, of('c')), api.EIO)
		told(t, d, false, n+1, 0)
		d.Start()
		reads(t, d, 0, of(0))
		reads(t, d, 7, of('a'))
		for i := 1; i < n; i++ {
			want := of(0)
			if i == 1 {
				want = mixed(9, 'b', 0)
			}
			reads(t, d, i, want)
		}
		// It is armed no more.
		for range 10 {
			writes(t, d, 0, of('d'))
			flushes(t, d)
		}
	}
}

// TestArmFlush (B3): a flush that crashes flushes nothing but what the crash leaves.
func TestArmFlush(t *testing.T) {
	d := device.New(4)
	writes(t, d, 2, of('a'))
	writes(t, d, 1, of('b'))
	writes(t, d, 0, of('c'))
	d.Arm(1, 2, 2, 20)
	answers(t, "Flush that crashes", d.Flush(), api.EIO)
	told(t, d, false, 4, 0)
	d.Start()
	reads(t, d, 2, of(0))
	reads(t, d, 1, of('b'))
	reads(t, d, 0, mixed(20, 'c', 0))
}

// TestArmWrite (B3): a write that crashes is not there itself, nor does it become loose.
func TestArmWrite(t *testing.T) {
	d := device.New(4)
	writes(t, d, 2, of('a'))
	d.Arm(1, math.MaxUint64, 1, 512)
	answers(t, "Write that crashes", d.Write(2, of('b')), api.EIO)
	d.Start()
	reads(t, d, 2, of('a'))
	told(t, d, true, 2, 0)
}

// TestArmWrong (B3): a call that is wrong counts too, and crashes as any other one does.
func TestArmWrong(t *testing.T) {
	d := device.New(4)
	d.Arm(3, 0, 0, 0)
	answers(t, "Write beside", d.Write(4, of('a')), api.EArg)
	answers(t, "Write short", d.Write(1, of('a')[1:]), api.EArg)
	answers(t, "Write beside that crashes", d.Write(4, of('a')), api.EIO)
	told(t, d, false, 3, 0)
	d.Start()
	d.Arm(1, 0, 0, 0)
	answers(t, "Write short that crashes", d.Write(1, nil), api.EIO)
	told(t, d, false, 4, 0)
}

// TestArmNone (B3): 0 or less arms nothing, and takes an earlier Arm back.
func TestArmNone(t *testing.T) {
	for _, n := range []int{0, -1, -7, math.MinInt} {
		d := device.New(4)
		d.Arm(n, 0, 0, 0)
		for range 5 {
			writes(t, d, 1, of('a'))
			flushes(t, d)
		}
		d.Arm(1, 0, 0, 0)
		d.Arm(n, 0, 0, 0)
		for range 5 {
			writes(t, d, 1, of('b'))
			flushes(t, d)
		}
		told(t, d, true, 20, 0)
	}
}

// TestArmTwice (B3): the last Arm alone matters, in all that it tells, and counts from itself on.
func TestArmTwice(t *testing.T) {
	d := device.New(4)
	d.Arm(1, 0, 0, 0)
	d.Arm(4, 1, 1, 5)
	writes(t, d, 0, of('a'))
	d.Arm(3, 2, 0, 6)
	writes(t, d, 1, of('b'))
	writes(t, d, 2, of('c'))
	answers(t, "Write that crashes", d.Write(3, of('d')), api.EIO)
	d.Start()
	reads(t, d, 0, mixed(6, 'a', 0))
	reads(t, d, 1, of('b'))
	reads(t, d, 2, of(0))
	reads(t, d, 3, of(0))
}

// TestArmVast (B3): far away is never reached.
func TestArmVast(t *testing.T) {
	d := device.New(4)
	writes(t, d, 1, of('a'))
	d.Arm(math.MaxInt, 0, 0, 0)
	for range 100 {
		writes(t, d, 1, of('a'))
		flushes(t, d)
	}
	told(t, d, true, 201, 0)
}

// TestCrashDisarms (B2): a device that crashed is not armed any more.
func TestCrashDisarms(t *testing.T) {
	d := device.New(4)
	d.Arm(2, 0, 0, 0)
	writes(t, d, 1, of('a'))
	d.Crash(1, -1, 0)
	d.Start()
	for range 5 {
		writes(t, d, 1, of('b'))
		flushes(t, d)
	}
	told(t, d, true, 11, 0)
}

// TestArmWhileDown (B3): one that is down can be armed: the calls that count come once it is up, and another Crash, which does nothing, leaves it armed.
func TestArmWhileDown(t *testing.T) {
	d := device.New(4)
	d.Crash(0, 0, 0)
	d.Arm(2, 1, 1, 1)
	answers(t, "Write down", d.Write(0, of('a')), api.EIO)
	answers(t, "Flush down", d.Flush(), api.EIO)
	d.Crash(0, 0, 0)
	d.Start()
	writes(t, d, 0, of('b'))
	answers(t, "Flush that crashes", d.Flush(), api.EIO)
	told(t, d, false, 2, 0)
	d.Start()
	reads(t, d, 0, of('b'))
}

// TestClone (B3, R3): a clone is as the device in all, and goes on by itself, as the device does.
func TestClone(t *testing.T) {
	d := device.New(5)
	writes(t, d, 0, of('a'))
	writes(t, d, 1, of('b'))
	flushes(t, d)
	writes(t, d, 2, of('c'))
	writes(t, d, 0, of('d'))
	d.Arm(3, 2, 0, 9)
	c := d.Clone()
	told(t, c, true, 5, 2)
	if c.Blocks() != 5 {
		t.Errorf("%d blocks", c.Blocks())
	}
	for n, b := range "dbc\x00\x00" {
		reads(t, c, n, of(byte(b)))
	}
	// The device goes on: the clone does not see it.
	writes(t, d, 4, of('e'))
	writes(t, d, 0, of('f'))
	told(t, c, true, 5, 2)
	reads(t, c, 4, of(0))
	reads(t, c, 0, of('d'))
	answers(t, "Write that crashes", d.Write(1, of('g')), api.EIO)
	told(t, d, false, 8, 0)
	told(t, c, true, 5, 2)
	// The clone goes on: it is armed as the device was, and has the same order.
	writes(t, c, 3, of('h'))
	writes(t, c, 2, of('i'))
	answers(t, "Flush that crashes", c.Flush(), api.EIO)
	d.Start()
	told(t, c, false, 8, 0)
	c.Start()
	for n, b := range "fb\x00\x00\x00" {
		if n != 2 {
			reads(t, d, n, of(byte(b)))
		}
	}
	reads(t, d, 2, mixed(9, 'c', 0))
	for n, b := range "db\x00\x00\x00" {
		if n != 2 {
			reads(t, c, n, of(byte(b)))
		}
	}
	reads(t, c, 2, mixed(9, 'i', 0))
}

// TestCloneFlush (B3, R3): what one of them flushes or crashes is flushed or lost in it alone, both ways.
func TestCloneFlush(t *testing.T) {
	for _, first := range []bool{true, false} {
		a := device.New(3)
		writes(t, a, 0, of('a'))
		flushes(t, a)
		writes(t, a, 0, of('b'))
		b := a.Clone()
		if !first {
			a, b = b, a
		}
		flushes(t, a)
		writes(t, b, 1, of('c'))
		told(t, a, true, 4, 0)
		told(t, b, true, 4, 2)
		b.Crash(0, -1, 0)
		if !a.Up() {
			t.Errorf("down")
		}
		b.Start()
		a.Crash(0, -1, 0)
		a.Start()
		reads(t, a, 0, of('b'))
		reads(t, b, 0, of('a'))
		reads(t, a, 1, of(0))
		reads(t, b, 1, of(0))
	}
}

// TestCloneOrder (B3, R3): both may go on behind the same loose blocks.
func TestCloneOrder(t *testing.T) {
	a := device.New(9)
	for n := range 3 {
		writes(t, a, n, of('a'))
	}
	b := a.Clone()
	writes(t, a, 5, of('b'))
	writes(t, b, 6, of('c'))
	writes(t, a, 7, of('d'))
	a.Crash(1<<3, -1, 0)
	b.Crash(1<<3, -1, 0)
	a.Start()
	b.Start()
	reads(t, a, 5, of('b'))
	reads(t, a, 6, of(0))
	reads(t, a, 7, of(0))
	reads(t, b, 5, of(0))
	reads(t, b, 6, of('c'))
}

// TestCloneOfDown (B3): a clone of one that is down is down.
func TestCloneOfDown(t *testing.T) {
	d := device.New(2)
	writes(t, d, 1, of('a'))
	d.Crash(1, -1, 0)
	c := d.Clone()
	told(t, c, false, 1, 0)
	readsNot(t, c, 1, api.EIO)
	d.Start()
	told(t, c, false, 1, 0)
	c.Start()
	reads(t, c, 1, of('a'))
}

// plain is a device told anew, as plainly as can be: all blocks twice, and a list of those that are loose.
type plain struct {
	old, now [][]byte
	loose    []int
	down     bool
	calls    int
	left     int
	crash    func()
}

func newPlain(blocks int) *plain {
	p := &plain{}
	for range blocks {
		p.old, p.now = append(p.old, of(0)), append(p.now, of(0))
	}
	return p
}

func (p *plain) fall(mask uint64, torn, k int) {
	if p.down {
		return
	}
	k = min(max(k, 0), 512)
	for i, n := range p.loose {
		if i == torn {
			copy(p.old[n][:k], p.now[n])
		} else if mask&(1<<(i%64)) != 0 {
			copy(p.old[n], p.now[n])
		}
		copy(p.now[n], p.old[n])
	}
	p.loose, p.down, p.left = nil, true, 0
}

// stopped counts a call, and tells whether it gets no further.
func (p *plain) stopped() bool {
	if p.down {
		return true
	}
	p.calls++
	if p.left > 0 {
		p.left--
		if p.left == 0 {
			p.crash()
			return true
		}
	}
	return false
}

func (p *plain) write(n int, b []byte) api.Errno {
	if p.stopped() {
		return api.EIO
	}
	if n < 0 || n >= len(p.now) || len(b) != 512 {
		return api.EArg
	}
	known := false
	for _, l := range p.loose {
		known = known || l == n
	}
	if !known {
		p.loose = append(p.loose, n)
	}
	copy(p.now[n], b)
	return api.OK
}

func (p *plain) flush() api.Errno {
	if p.stopped() {
		return api.EIO
	}
	for _, n := range p.loose {
		copy(p.old[n], p.now[n])
	}
	p.loose = nil
	return api.OK
}

// dice are numbers that look thrown, and are the same each time.
type dice uint64

func (d *dice) below(n int) int {
	*d = *d*6364136223846793005 + 1442695040888963407
	return int(uint64(*d)>>33) % n
}

// TestAgainstPlain (B1 to B3, R4): whatever is called, the answers are those of a device that is told as plainly as can be.
func TestAgainstPlain(t *testing.T) {
	for seed := range 40 {
		roll := dice(seed)
		blocks := 1 + roll.below(90)
		d, p := device.New(blocks), newPlain(blocks)
		for step := range 600 {
			mask := uint64(roll.below(1<<30))<<34 | uint64(roll.below(1<<30))<<4 | uint64(roll.below(16))
			torn, k := roll.below(70)-3, roll.below(560)-20
			switch r := roll.below(100); {
			case r < 70:
				n, b := roll.below(blocks+2)-1, of(byte(roll.below(256)))
				if roll.below(40) == 0 {
					b = b[1:]
				}
				answers(t, "Write", d.Write(n, b), p.write(n, b))
			case r < 80:
				answers(t, "Flush", d.Flush(), p.flush())
			case r < 84:
				d.Crash(mask, torn, k)
				p.fall(mask, torn, k)
			case r < 92:
				d.Start()
				p.down = false
			case r < 96:
				n := roll.below(30) - 2
				d.Arm(n, mask, torn, k)
				p.left, p.crash = max(n, 0), func() { p.fall(mask, torn, k) }
			default:
				d = d.Clone()
			}
			told(t, d, !p.down, p.calls, len(p.loose))
			n := roll.below(blocks)
			if p.down {
				readsNot(t, d, n, api.EIO)
			} else if b, e := d.Read(n); e != api.OK || !bytes.Equal(b, p.now[n]) {
				t.Errorf("Read %d: %.8q.. %v", n, b, e)
			}
			if t.Failed() {
				t.Fatalf("seed %d, step %d", seed, step)
			}
		}
	}
}
