package tale

import "bulkhead/api"

// stepName tells what a step of a core has done.
func stepName(kind int) string {
	names := [...]string{api.TurnBlocked: "blocked", api.TurnRun: "run", api.TurnCall: "call", api.TurnSwitch: "switch", api.TurnArrive: "arrive", api.TurnLeave: "leave"}
	return names[kind]
}

// modeName tells a core's mode.
func modeName(mode int) string {
	names := [...]string{api.ModeRun: "run", api.ModeCall: "call", api.ModeArrive: "arrive", api.ModeWait: "wait", api.ModeEnd: "end"}
	return names[mode]
}

// stateName tells a partition's state.
func stateName(state int) string {
	names := [...]string{api.StateReady: "ready", api.StateYielded: "yielded", api.StateRestart: "restart", api.StateHalted: "halted"}
	return names[state]
}

// eventName tells what has become of a partition.
func eventName(kind int) string {
	names := [...]string{api.EventTrap: "trap", api.EventHalt: "halt", api.EventStop: "stop", api.EventWarm: "warm", api.EventCold: "cold"}
	return names[kind]
}

// moment tells a frame and a cycle of it.
func moment(epoch, cycle int) string { return digits(epoch) + ":" + digits(cycle) }
