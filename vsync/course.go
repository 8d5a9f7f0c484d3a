package vsync

import (
	"bytes"

	"folkmoot/api"
	"folkmoot/ring"
)

// journal is what has happened, till it is told.
type journal struct {
	events []api.Event
}

func (j *journal) add(e api.Event) {
	j.events = append(j.events, e)
}

func (j *journal) take() []api.Event {
	l := j.events
	j.events = nil
	return l
}

// course is what a node has received of a view, in its order: how many are known to be safe, and those behind them.
//
// The leader puts no more into the order than Ring behind those that are safe, and tells how many these are beside all that it sends: so there are never more here.
type course struct {
	view   api.View
	safe   int
	kept   *ring.Ring[api.Item]
	events *journal
}

func newCourse(c api.Config, v api.View, events *journal) *course {
	kept, _ := ring.New[api.Item](c.Ring)
	return &course{view: v, kept: kept, events: events}
}

// had: how many were received.
func (c *course) had() int {
	return c.safe + c.kept.Len()
}

// state: what is told of this view when another one is agreed upon.
func (c *course) state() api.State {
	return api.State{V: c.view.ID, Floor: c.safe, Items: c.kept.First(c.kept.Len())}
}

// weight: how many bytes those have that aren't known to be safe.
func (c *course) weight() int {
	n := 0
	for i := range c.kept.Len() {
		x, _ := c.kept.At(i)
		n += len(x.M)
	}
	return n
}

// receive: the next one of the order.
func (c *course) receive(x api.Item) {
	if c.kept.Put(x) == api.OK {
		c.tell(api.ERecv, x)
	}
}

// settle: so many are known to be safe, but none that wasn't received.
func (c *course) settle(count uint64) {
	for uint64(c.safe) < count {
		x, e := c.kept.Take()
		if e != api.OK {
			return
		}
		c.safe++
		c.tell(api.ESafe, x)
	}
}

// tell: an event of this view.
func (c *course) tell(kind byte, x api.Item) {
	c.events.add(api.Event{Kind: kind, View: c.view, From: x.From, M: bytes.Clone(x.M)})
}
