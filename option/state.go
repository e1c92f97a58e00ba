package option

// state is that of an option on one side. Its numbers are those that State returns.
type state byte

const (
	no state = iota
	yes
	wantNo
	wantNoOpposite
	wantYes
	wantYesOpposite
)

// speech is what is sent. Which verb that is depends on the side.
type speech byte

const (
	sayNothing speech = iota
	sayOn
	sayOff
)

// step is what follows from a message or a request.
type step struct {
	next state
	say  speech
}

func (s state) hearOn(agrees bool) step {
	switch s {
	case no:
		if agrees {
			return step{yes, sayOn}
		}
		return step{no, sayOff}
	case wantNo:
		return step{no, sayNothing}
	case wantNoOpposite, wantYes:
		return step{yes, sayNothing}
	case wantYesOpposite:
		return step{wantNo, sayOff}
	}
	return step{s, sayNothing}
}

func (s state) hearOff() step {
	switch s {
	case yes:
		return step{no, sayOff}
	case wantNo, wantYes, wantYesOpposite:
		return step{no, sayNothing}
	case wantNoOpposite:
		return step{wantYes, sayOn}
	}
	return step{s, sayNothing}
}

// ask returns false if there is nothing to ask for: the option is what is asked for, or will be.
func (s state) ask(on bool) (step, bool) {
	if on {
		return s.askOn()
	}
	return s.askOff()
}

func (s state) askOn() (step, bool) {
	switch s {
	case no:
		return step{wantYes, sayOn}, true
	case wantNo:
		return step{wantNoOpposite, sayNothing}, true
	case wantYesOpposite:
		return step{wantYes, sayNothing}, true
	}
	return step{}, false
}

func (s state) askOff() (step, bool) {
	switch s {
	case yes:
		return step{wantNo, sayOff}, true
	case wantNoOpposite:
		return step{wantNo, sayNothing}, true
	case wantYes:
		return step{wantYesOpposite, sayNothing}, true
	}
	return step{}, false
}
