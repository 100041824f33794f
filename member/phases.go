package member

import (
	"slices"
	"strings"

	"flotsam/api"
	"flotsam/assign"
)

// begin begins anew.
func (g *Group) begin(now int) {
	for i := range g.Members {
		g.Members[i].Joined = false
		g.Members[i].Parts = nil
	}
	g.enter(Joining, now)
}

// close ends the Joining of a group, without those that have not joined.
func (g *Group) close(now int) {
	g.drop(func(o One) bool { return !o.Joined })
	if len(g.Members) > 0 {
		g.Generation++
	}
	g.enter(Syncing, now)
}

// closeWhole closes, if nobody is left to wait for.
func (g *Group) closeWhole(now int) {
	if !slices.ContainsFunc(g.Members, func(o One) bool { return !o.Joined }) {
		g.close(now)
	}
}

// goOn does what has to be done when members have gone.
func (g *Group) goOn(now int) {
	if g.Phase == Joining {
		g.closeWhole(now)
		return
	}
	g.begin(now)
}

// enter begins a phase that lasts a while; without members there is none but Empty.
func (g *Group) enter(phase int, now int) {
	g.Phase, g.Until = phase, now+g.rebalance
	if len(g.Members) == 0 {
		g.Phase, g.Until = Empty, 0
	}
}

// deal gives each member its parts.
func (g *Group) deal(topics []api.Topic, round bool) api.Errno {
	var subs []api.Sub
	for _, o := range g.Members {
		subs = append(subs, api.Sub{Member: o.Member, Topics: o.Topics})
	}
	way := assign.Range
	if round {
		way = assign.Round
	}
	shares, e := way(subs, topics)
	if e != api.OK {
		return e
	}
	for i, share := range shares {
		g.Members[i].Parts = share.Parts
	}
	g.Phase, g.Until = Stable, 0
	return api.OK
}

// find is a member, nil if there is none such.
func (g *Group) find(m int) *One {
	i := slices.IndexFunc(g.Members, func(o One) bool { return o.Member == m })
	if i < 0 {
		return nil
	}
	return &g.Members[i]
}

// add puts a new member behind all others: none has a greater number.
func (g *Group) add() int {
	m := g.Next
	g.Next++
	g.Members = append(g.Members, One{Member: m})
	return m
}

// drop lets members go, and tells whether there were such.
func (g *Group) drop(which func(o One) bool) bool {
	n := len(g.Members)
	g.Members = slices.DeleteFunc(g.Members, which)
	return len(g.Members) < n
}

// names tells whether there is such a member, and the generation is this one.
func (g *Group) names(m int, generation int) api.Errno {
	if g.find(m) == nil {
		return api.ErrMember
	}
	if generation != g.Generation {
		return api.ErrOld
	}
	return api.OK
}

func copyTexts(l []string) []string {
	var copied []string
	for _, s := range l {
		copied = append(copied, strings.Clone(s))
	}
	return copied
}

func copyParts(l []api.Part) []api.Part {
	var copied []api.Part
	for _, p := range l {
		copied = append(copied, api.Part{Topic: strings.Clone(p.Topic), Index: p.Index})
	}
	return copied
}
