package catalog

import (
	"maps"
	"slices"

	"asof/api"
)

// names is a set of names.
type names map[string]bool

// sorted returns the names in increasing order.
func (n names) sorted() []string {
	return slices.Sorted(maps.Keys(n))
}

// graph contains, for the name of each feature in force, the names of what it directly uses.
type graph map[string]names

// dependencies returns the features and the tables that the features in force of c directly use.
func dependencies(c api.Catalog) (onFeatures, onTables graph) {
	onFeatures, onTables = graph{}, graph{}
	for _, f := range c.Features {
		if _, found := onFeatures[f.Name]; !found { // the first one counts
			onFeatures[f.Name], onTables[f.Name] = directUses(f.Body)
		}
	}
	return onFeatures, onTables
}

// directUses returns the names of the features and of the tables that x directly uses.
func directUses(x api.Expr) (features, tables names) {
	features, tables = names{}, names{}
	addUses(x, features, tables)
	return features, tables
}

// addUses adds what x directly uses to the sets.
func addUses(x api.Expr, features, tables names) {
	switch x.Kind {
	case api.FeatureE, api.LookupE:
		features[x.Name] = true
	case api.AggE:
		tables[x.Table] = true
	}
	for _, arg := range x.Args {
		addUses(arg, features, tables)
	}
}

// closure returns these names and all that they use.
func (g graph) closure(start names) names {
	all := names{}
	for pending := start.sorted(); len(pending) > 0; pending = pending[1:] {
		name := pending[0]
		if !all[name] {
			all[name] = true
			pending = append(pending, g[name].sorted()...)
		}
	}
	return all
}

// order returns names of g: again and again the least one that uses no others in g than those before it.
func (g graph) order() (l []string) {
	users := map[string][]string{}
	missing := map[string]int{} // how many names that are not in l a name uses
	var ready []string
	for user, used := range g {
		for name := range used {
			if _, found := g[name]; found {
				users[name] = append(users[name], user)
				missing[user]++
			}
		}
		if missing[user] == 0 {
			ready = append(ready, user)
		}
	}
	slices.Sort(ready)
	for len(ready) > 0 {
		name := ready[0]
		l, ready = append(l, name), ready[1:]
		for _, user := range users[name] {
			missing[user]--
			if missing[user] == 0 {
				at, _ := slices.BinarySearch(ready, user)
				ready = slices.Insert(ready, at, user)
			}
		}
	}
	return l
}

// cycleFrom returns the cycle with the fewest names that begins with start, and of several ones the least; no names if there is none.
func (g graph) cycleFrom(start string) (l []string) {
	before := map[string]string{} // the name before each one that was reached
	queue := []string{start}      // in the order of the ways that lead here, so that the least of the shortest ones is found first
search:
	for ; len(queue) > 0; queue = queue[1:] {
		for _, next := range g[queue[0]].sorted() {
			if next == start {
				break search
			}
			if _, found := before[next]; !found {
				before[next] = queue[0]
				queue = append(queue, next)
			}
		}
	}
	if len(queue) == 0 {
		return nil
	}
	for name := queue[0]; name != start; name = before[name] {
		l = append(l, name)
	}
	l = append(l, start)
	slices.Reverse(l)
	return l
}
