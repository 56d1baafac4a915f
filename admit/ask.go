package admit

import "bulkhead/api"

// unnamed is a place of a Where that a fault does not name.
const unnamed = -1

// fault is something that is wrong with a configuration, and where; its zero value says that nothing is.
type fault struct {
	name api.Errno
	at   api.Where
}

// question looks for one thing that may be wrong. It may lean on all that the questions ahead of it have found to be right.
type question func() fault

// firstFault asks in turn, till something wrong is found.
func firstFault(asked []question) fault {
	for _, ask := range asked {
		if f := ask(); f.name != api.OK {
			return f
		}
	}
	return fault{}
}

// oneByOne asks all questions of the first of so many, then all of the next one, and so on, till something wrong is found.
func oneByOne(many int, questionsOf func(i int) []question) fault {
	for i := range many {
		if f := firstFault(questionsOf(i)); f.name != api.OK {
			return f
		}
	}
	return fault{}
}

// unless is the fault of this name at this place, unless what is asked holds.
func unless(holds bool, name api.Errno, at api.Where) fault {
	if holds {
		return fault{}
	}
	return fault{name: name, at: at}
}

// within tells whether a number is one of those from the least to the greatest.
func within(n, least, greatest int) bool { return least <= n && n <= greatest }
