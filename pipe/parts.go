package pipe

import (
	"slices"
	"strings"

	"noggin/api"
	"noggin/deficit"
	"noggin/delay"
	"noggin/disk"
	"noggin/ledger"
	"noggin/level"
	"noggin/line"
	"noggin/mark"
	"noggin/ring"
	"noggin/sender"
	"noggin/series"
	"noggin/spill"
	"noggin/window"
)

// waiting is an event in a queue: what the table asks of it, and the tick at which it came.
type waiting struct {
	key         string
	kind        int
	value, time int64
	came        int64
}

// class is what each class has for itself.
type class struct {
	queue   *ring.Ring[waiting]
	control *delay.Control
}

// parts are what a crash takes.
type parts struct {
	classes []class
	turns   *deficit.Turns
	gauge   *level.Gauge
	ledger  *ledger.Ledger
	mark    *mark.Mark
	table   *window.Table // it counts its batches from 0 on
}

// store is what stands on the disk, and a crash opens again.
type store struct {
	spill  *spill.Spill
	sender *sender.Sender
	// The number of the table's batch 0: a table may not begin with each number that a spill may go on with.
	first int
}

// read is a line's event, as it comes at a tick.
func read(s string, now int64) (waiting, error) {
	e, err := line.Parse(s)
	if err != nil {
		return waiting{}, err
	}
	key, err := series.Key(e)
	if err != nil {
		return waiting{}, err
	}
	return waiting{key: key, kind: e.Kind, value: e.Value, time: e.Time, came: now}, nil
}

// makeParts makes them of a config whose lists may be.
func makeParts(c api.Config) (p parts, err error) {
	if p.classes, err = makeClasses(c); err != nil {
		return parts{}, err
	}
	if p.turns, err = deficit.New(c.Quanta); err != nil {
		return parts{}, err
	}
	if p.gauge, err = level.New(len(c.Thresholds[0]), c.Low, c.High, c.Hold); err != nil {
		return parts{}, err
	}
	if p.ledger, err = ledger.New(c.Classes); err != nil {
		return parts{}, err
	}
	if p.mark, err = mark.New(c.Lateness, c.Idle); err != nil {
		return parts{}, err
	}
	if p.table, err = window.New(c.Width, c.Windows, c.Rows, 0); err != nil {
		return parts{}, err
	}
	return p, nil
}

func makeClasses(c api.Config) ([]class, error) {
	l := make([]class, c.Classes)
	for i := range l {
		queue, err := ring.New[waiting](c.Room)
		if err != nil {
			return nil, err
		}
		control, err := delay.New(c.Target, c.Interval)
		if err != nil {
			return nil, err
		}
		l[i] = class{queue, control}
	}
	return l, nil
}

func openStore(c api.Config, d *disk.Disk) (store, error) {
	s, err := spill.Open(d, c.Many, c.Spill)
	if err != nil {
		return store{}, err
	}
	x, err := sender.New(s, c.Base, c.Cap, c.Fails, c.Pause)
	if err != nil {
		return store{}, err
	}
	return store{spill: s, sender: x, first: s.Next()}, nil
}

// copyOf is a config that shares nothing with c.
func copyOf(c api.Config) api.Config {
	c.Rules = slices.Clone(c.Rules)
	for i := range c.Rules {
		c.Rules[i].Prefix = strings.Clone(c.Rules[i].Prefix)
	}
	c.Thresholds = slices.Clone(c.Thresholds)
	for i := range c.Thresholds {
		c.Thresholds[i] = slices.Clone(c.Thresholds[i])
	}
	c.Quanta = slices.Clone(c.Quanta)
	return c
}
