package disk_test

import (
	"strings"
	"testing"

	"icehouse/api"
	"icehouse/disk"
)

// paper is a disk by the chapter's words.
type paper struct {
	lasting, tail string
	syncs         int
}

// act is a call, what it does to the disk, and what it ought to do. It returns the
// disk that goes on.
type act struct {
	name string
	do   func(d *disk.Disk) (*disk.Disk, api.Errno)
	want func(p paper) (paper, api.Errno)
}

func appendOf(name string, l ...string) act {
	return act{
		"Append" + name,
		func(d *disk.Disk) (*disk.Disk, api.Errno) { return d, d.Append(bytesOf(l...)...) },
		func(p paper) (paper, api.Errno) {
			p.tail += strings.Join(l, "")
			return p, api.OK
		},
	}
}

func replaceBy(s string) act {
	return act{
		"Replace(" + s + ")",
		func(d *disk.Disk) (*disk.Disk, api.Errno) { return d, d.Replace([]byte(s)) },
		func(p paper) (paper, api.Errno) { return paper{s, "", p.syncs}, api.OK },
	}
}

func crashOf(name string, kept int) act {
	return act{
		"Crash" + name,
		func(d *disk.Disk) (*disk.Disk, api.Errno) { return d, d.Crash(kept) },
		func(p paper) (paper, api.Errno) {
			if kept < 0 {
				return p, api.ErrArg
			}
			return paper{p.lasting + p.tail[:min(kept, len(p.tail))], "", p.syncs}, api.OK
		},
	}
}

func sync() act {
	return act{
		"Sync",
		func(d *disk.Disk) (*disk.Disk, api.Errno) { return d, d.Sync() },
		func(p paper) (paper, api.Errno) {
			if p.tail != "" {
				p.syncs++
			}
			return paper{p.lasting + p.tail, "", p.syncs}, api.OK
		},
	}
}

// copied goes on with the copy, while the original is made another one.
func copied() act {
	return act{
		"Copy",
		func(d *disk.Disk) (*disk.Disk, api.Errno) {
			c := d.Copy()
			d.Append([]byte("!!"), []byte("!"))
			d.Crash(1)
			d.Append([]byte("?"))
			d.Sync()
			return c, api.OK
		},
		func(p paper) (paper, api.Errno) { return p, api.OK },
	}
}

// original goes on with the original, while the copy is made another one.
func original() act {
	return act{
		"Copy that is left",
		func(d *disk.Disk) (*disk.Disk, api.Errno) {
			c := d.Copy()
			c.Append([]byte("!!"), []byte("!"))
			c.Crash(1)
			c.Append([]byte("?"))
			c.Sync()
			return d, api.OK
		},
		func(p paper) (paper, api.Errno) { return p, api.OK },
	}
}

func failing() act {
	long := make([]byte, api.MaxDisk+1)
	return act{
		"calls that fail",
		func(d *disk.Disk) (*disk.Disk, api.Errno) {
			if e := d.Replace(long); e != api.ErrLong {
				return d, e
			}
			return d, d.Append([]byte("a"), long)
		},
		func(p paper) (paper, api.Errno) { return p, api.ErrLong },
	}
}

// acts: what is written begins with that letter. Those that replace come last.
func acts(letter string) []act {
	return []act{
		appendOf("()"), appendOf("(nothing)", ""), appendOf("(one)", letter), appendOf("(more)", letter+"b", "", letter+"cd"),
		sync(), copied(), original(),
		crashOf("(-1)", -1), crashOf("(0)", 0), crashOf("(1)", 1), crashOf("(3)", 3), crashOf("(99)", 99),
		replaceBy(""), replaceBy(letter + "y"),
	}
}

// start is a way to come by a disk, with what it then has.
type start struct {
	name string
	from func(t *testing.T) *disk.Disk
	has  paper
}

func starts() []start {
	return []start{
		{"New", func(t *testing.T) *disk.Disk { return disk.New() }, paper{}},
		{"Of", func(t *testing.T) *disk.Disk { return mustOf(t, []byte("pq")) }, paper{lasting: "pq"}},
	}
}

// rows calls do with each row of up to so many acts.
func rows(l []act, most int, do func(row []act)) {
	var longer func(row []act)
	longer = func(row []act) {
		do(row)
		if len(row) == most {
			return
		}
		for _, a := range l {
			longer(append(row[:len(row):len(row)], a))
		}
	}
	longer(nil)
}

// play holds a disk against the paper after a row of acts.
func play(t *testing.T, s start, row []act) {
	t.Helper()
	d, p, name := s.from(t), s.has, s.name
	for _, a := range row {
		next, e := a.do(d)
		after, want := a.want(p)
		d, p, name = next, after, name+", "+a.name
		answers(t, name, e, want)
	}
	holds(t, name, d, p.lasting, p.tail, p.syncs)
}

func TestRowsOfCalls(t *testing.T) {
	for _, s := range starts() {
		rows(acts("a"), 4, func(row []act) { play(t, s, row) })
	}
}

// With an error nothing changes: what comes after it is as if it had not been.
func TestRowsOfCallsThatFail(t *testing.T) {
	l := []act{failing(), appendOf("(a)", "a"), sync(), crashOf("(1)", 1), crashOf("(-1)", -1), replaceBy("xy")}
	for _, s := range starts() {
		rows(l, 4, func(row []act) { play(t, s, row) })
	}
}

// Durable bytes are lost only by Replace: any other call leaves them where they
// are, and puts behind them a prefix of the tail.
func TestDurableBytesStay(t *testing.T) {
	l := acts("a")
	l = l[:len(l)-2]
	rows(l, 3, func(row []act) {
		d := diskOf(t, "pq", "rst")
		for _, a := range row {
			lasting, all := string(d.Lasting()), string(d.Bytes())
			d, _ = a.do(d)
			if got := string(d.Lasting()); !strings.HasPrefix(got, lasting) || !strings.HasPrefix(all, got) {
				t.Errorf("%s: of %q, %q of it durable, %q is durable then", a.name, all, lasting, got)
			}
		}
	})
}

// Whatever happens to a disk is not seen in its copy, nor the other way round: both
// go on in turns, each with bytes of its own.
func TestDiskAndCopyGoOn(t *testing.T) {
	rows(acts("a"), 2, func(first []act) {
		rows(acts("z"), 2, func(second []act) {
			d := diskOf(t, "", "pq")
			d.Sync()
			d.Append([]byte("rst"))
			c := d.Copy()
			p := paper{"pq", "rst", 1}
			q := p
			for i := range max(len(first), len(second)) {
				d, p = step(d, p, first, i)
				c, q = step(c, q, second, i)
			}
			holds(t, "a disk beside its copy", d, p.lasting, p.tail, p.syncs)
			holds(t, "a copy beside its disk", c, q.lasting, q.tail, q.syncs)
		})
	})
}

// step does act i of a row, if there is one.
func step(d *disk.Disk, p paper, row []act, i int) (*disk.Disk, paper) {
	if i >= len(row) {
		return d, p
	}
	d, _ = row[i].do(d)
	p, _ = row[i].want(p)
	return d, p
}
