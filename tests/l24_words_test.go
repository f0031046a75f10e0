package tests

import (
	"fmt"
	"regexp"
	"slices"
	"strconv"
	"strings"
	"testing"

	"loop.example/g00049/impl"
)

// lineForms are what a script's lines look like, by their first words; what stands behind that is the only group.
var lineForms = map[string]*regexp.Regexp{
	"net": numbersForm("net", "2"), "fibre": numbersForm("fibre", "3"), "up": numbersForm("up", "5"), "signal": numbersForm("signal", "6"),
	"put": numbersForm("put", "6,"), "down": numbersForm("down", "1"), "guard": numbersForm("guard", "5"), "pair": numbersForm("pair", "2"),
	"undo": numbersForm("undo", "1"), "fail": numbersForm("fail", "1"), "slide": numbersForm("slide", "2"), "tidy": numbersForm("tidy", "0"),
	"show": numbersForm("show", "0"), "set": lineForm("set", ` +`+nameByWords+` +[^ \n]+ +[^ \n]+`),
	"sum": namesForm("sum"), "product": namesForm("product"), "quotient": namesForm("quotient"),
}

var noCallForm = regexp.MustCompile(`\A *(#[^\n]*)?\z`)

func lineForm(word string, behind string) *regexp.Regexp {
	return regexp.MustCompile(`\A *` + word + `(` + behind + `) *\z`)
}

func numbersForm(word string, count string) *regexp.Regexp {
	return lineForm(word, `(?: +[0-9]{1,10}){`+count+`}`)
}

func namesForm(word string) *regexp.Regexp {
	return lineForm(word, `(?: +`+nameByWords+`){3}`)
}

// callWords are a bench, and what stands behind a line's first word.
type callWords struct {
	bench   impl.Bench
	words   []string
	numbers []int64
}

// sayByWords has one blank between words, and none where a list is empty.
func sayByWords(parts ...any) string {
	text := strings.NewReplacer("[", " ", "]", " ").Replace(fmt.Sprintln(parts...))
	return strings.Join(strings.Fields(text), " ")
}

// callsByWords change the bench, and answer what is said and the code.
var callsByWords = map[string]func(*callWords) (string, int64){
	"net":      netCall,
	"fibre":    fibreCall,
	"up":       upCall,
	"signal":   signalCall,
	"put":      putCall,
	"down":     downCall,
	"guard":    guardCall,
	"pair":     pairCall,
	"undo":     undoCall,
	"fail":     failCall,
	"slide":    slideCall,
	"tidy":     tidyCall,
	"show":     showCall,
	"set":      func(c *callWords) (string, int64) { return c.setTo(quantityReadByWords(c.words[1], c.words[2])) },
	"sum":      func(c *callWords) (string, int64) { return c.setFrom('+') },
	"product":  func(c *callWords) (string, int64) { return c.setFrom('*') },
	"quotient": func(c *callWords) (string, int64) { return c.setFrom('/') },
}

func (c *callWords) need() impl.Need {
	return needOf(c.numbers[0], c.numbers[1], c.numbers[2], c.numbers[3], c.numbers[4])
}

func (c *callWords) light(id int64) impl.Lit {
	lit, _ := litById(c.bench.Lits, id)
	return lit
}

func netCall(c *callWords) (string, int64) {
	if c.bench.Net.Nodes != 0 {
		return "", impl.ErrForm
	}
	c.bench.Net = netOf(c.numbers[0], c.numbers[1])
	return "net", netCodeByWords(c.bench.Net)
}

func fibreCall(c *callWords) (string, int64) {
	if len(c.bench.Lits) != 0 {
		return "", impl.ErrForm
	}
	c.bench.Net.Fibres = append(c.bench.Net.Fibres, fibreOf(c.numbers[0], c.numbers[1], c.numbers[2]))
	return sayByWords("fibre", len(c.bench.Net.Fibres)-1), netCodeByWords(c.bench.Net)
}

func upCall(c *callWords) (string, int64) {
	up := upByWords(c.bench.Net, c.bench.Lits, c.need())
	c.bench.Lits = up.Lits
	lit := c.light(c.numbers[0])
	return sayByWords("up", lit.Id, lit.First, lit.Path), up.Code
}

func signalCall(c *callWords) (string, int64) {
	up := signalByWords(c.bench.Net, c.bench.Lits, c.need(), c.numbers[5])
	c.bench.Lits = up.Lits
	lit := c.light(c.numbers[0])
	return sayByWords("signal", lit.Id, lit.First, len(up.Hops)), up.Code
}

func putCall(c *callWords) (string, int64) {
	n := c.numbers
	if _, has := litById(c.bench.Lits, n[0]); has || n[0] == 0 {
		return "", impl.ErrForm
	}
	c.bench.Lits = byId(c.bench.Lits, litOf(n[0], n[1], n[2], n[3], n[4], n[5:]...))
	return sayByWords("put", n[0]), litsCodeByWords(c.bench.Net, c.bench.Lits)
}

func downCall(c *callWords) (string, int64) {
	id := c.numbers[0]
	if slices.Contains(idsOf(c.bench.Guards), id) {
		return "", impl.ErrForm
	}
	down := downByWords(c.bench.Net, c.bench.Lits, id)
	c.bench.Lits = down.Lits
	return sayByWords("down", id), down.Code
}

func guardCall(c *callWords) (string, int64) {
	up := guardUpByWords(c.bench.Net, c.bench.Lits, c.bench.Guards, c.need())
	c.bench.Lits, c.bench.Guards = up.Lits, up.Guards
	id := c.numbers[0]
	return sayByWords("guard", id, c.light(id).First, c.light(id+1).First), up.Code
}

func pairCall(c *callWords) (string, int64) {
	c.bench.Guards = append(c.bench.Guards, guardOf(c.numbers[0], c.numbers[1]))
	return sayByWords("pair", c.numbers), guardsCodeByWords(c.bench.Net, c.bench.Lits, c.bench.Guards)
}

func undoCall(c *callWords) (string, int64) {
	down := guardDownByWords(c.bench.Net, c.bench.Lits, c.bench.Guards, c.numbers[0])
	c.bench.Lits, c.bench.Guards = down.Lits, down.Guards
	return sayByWords("undo", c.numbers[0]), down.Code
}

func failCall(c *callWords) (string, int64) {
	fail := failByWords(c.bench.Net, c.bench.Lits, c.bench.Guards, c.numbers[0])
	whole := []impl.Guard{}
	for _, guard := range c.bench.Guards {
		_, hasWork := litById(fail.Lits, guard.Work)
		_, hasSpare := litById(fail.Lits, guard.Spare)
		if hasWork && hasSpare {
			whole = append(whole, guard)
		}
	}
	c.bench.Lits, c.bench.Guards = fail.Lits, whole
	return sayByWords("fail", c.numbers[0], "switched", fail.Switched, "bare", fail.Bare, "rerouted", fail.Rerouted, "lost", fail.Lost), fail.Code
}

func slideCall(c *callWords) (string, int64) {
	slid := slideByWords(c.bench.Net, c.bench.Lits, slideOf(c.numbers[0], c.numbers[1]))
	c.bench.Lits = slid.Lits
	return sayByWords("slide", c.numbers), slid.Code
}

func tidyCall(c *callWords) (string, int64) {
	tidy := tidyByWords(c.bench.Net, c.bench.Lits)
	c.bench.Lits = tidy.Lits
	return sayByWords("tidy", len(tidy.Slides), topByWords(c.bench.Net, c.bench.Lits)), tidy.Code
}

func showCall(c *callWords) (string, int64) {
	lits := c.bench.Lits
	return sayByWords("show", len(lits), topByWords(c.bench.Net, lits), holesByWords(c.bench.Net, lits)), impl.OK
}

// quantityAt is what is set by that name; false, if nothing is.
func (c *callWords) quantityAt(name string) (impl.Quantity, bool) {
	for _, s := range c.bench.Settings {
		if s.Name == name {
			return s.Quantity, true
		}
	}
	return impl.Quantity{}, false
}

func (c *callWords) setFrom(by byte) (string, int64) {
	first, hasFirst := c.quantityAt(c.words[1])
	second, hasSecond := c.quantityAt(c.words[2])
	if !hasFirst || !hasSecond {
		return "", impl.ErrNone
	}
	return c.setTo(reckonedByWords(first, by, second))
}

func (c *callWords) setTo(told impl.QuantityResult) (string, int64) {
	name := c.words[0]
	_, has := c.quantityAt(name)
	switch {
	case told.Code != impl.OK:
		return "", told.Code
	case has:
		for i := range c.bench.Settings {
			if c.bench.Settings[i].Name == name {
				c.bench.Settings[i].Quantity = told.Quantity
			}
		}
	case len(c.bench.Settings) == 50:
		return "", impl.ErrMany
	default:
		c.bench.Settings = append(c.bench.Settings, impl.Setting{Name: name, Quantity: told.Quantity})
	}
	return name + " = " + tellByWords(told.Quantity), impl.OK
}

// onNet are the words of calls that need a net.
var onNet = []string{"fibre", "up", "signal", "put", "down", "guard", "pair", "undo", "fail", "slide", "tidy"}

func callByWords(b impl.Bench, word string, behind string) impl.StepResult {
	call := callWords{bench: copyOfBench(b), words: strings.Split(strings.Trim(regexp.MustCompile(` +`).ReplaceAllString(behind, " "), " "), " ")}
	for _, told := range call.words {
		number, _ := strconv.ParseInt(told, 10, 64)
		call.numbers = append(call.numbers, number)
	}
	if b.Net.Nodes == 0 && slices.Contains(onNet, word) {
		return noStep(impl.ErrForm)
	}
	say, code := callsByWords[word](&call)
	if code != impl.OK {
		return noStep(code)
	}
	return toldStep(say, call.bench)
}

func noStep(code int64) impl.StepResult {
	return impl.StepResult{Code: code}
}

func toldStep(say string, b impl.Bench) impl.StepResult {
	return impl.StepResult{Say: say, Bench: b}
}

func benchStepByWords(b impl.Bench, line string) impl.StepResult {
	if code := benchCodeByWords(b); code != impl.OK {
		return noStep(code)
	}
	if noCallForm.MatchString(line) {
		return toldStep("", b)
	}
	for word, form := range lineForms {
		if found := form.FindStringSubmatch(line); found != nil {
			return callByWords(b, word, found[1])
		}
	}
	return noStep(impl.ErrText)
}

func holdStep(t *testing.T, b impl.Bench, line string, want impl.StepResult) {
	t.Helper()
	ask := func(a benchArgs) impl.StepResult { return impl.StepBench(a.bench, line) }
	holdCall(t, fmt.Sprintf("StepBench by %q", brief(line)), benchArgs{b}, ask, want)
	if told := benchStepByWords(b, line); fmt.Sprint(told) != fmt.Sprint(want) {
		t.Errorf("%q: the words tell %s of %s, not %s", brief(line), brief(told), brief(b), brief(want))
	}
}

// holdStepByWords has the words tell the answer, and hands it on.
func holdStepByWords(t *testing.T, b impl.Bench, line string) impl.StepResult {
	t.Helper()
	want := benchStepByWords(b, line)
	holdStep(t, b, line, want)
	return want
}

func noRun(code int64) impl.RunResult {
	return impl.RunResult{Code: code}
}

func toldRun(log string, b impl.Bench) impl.RunResult {
	return impl.RunResult{Log: log, Bench: b}
}

func benchRunByWords(b impl.Bench, text string) impl.RunResult {
	lines := strings.Split(text, "\n")
	if len(text) > 4000 || len(lines) > 400 {
		return noRun(impl.ErrMany)
	}
	if code := benchCodeByWords(b); code != impl.OK {
		return noRun(code)
	}
	run := toldRun("", b)
	for at, line := range lines {
		step := benchStepByWords(run.Bench, line)
		switch {
		case step.Code == impl.ErrText:
			run.Code, run.At = impl.ErrText, int64(at)
			return run
		case step.Code != impl.OK:
			run.Log += fmt.Sprintf("no %d\n", step.Code)
		default:
			run.Bench = step.Bench
			if step.Say != "" {
				run.Log += step.Say + "\n"
			}
		}
	}
	return run
}

func holdRun(t *testing.T, b impl.Bench, text string, want impl.RunResult) {
	t.Helper()
	ask := func(a benchArgs) impl.RunResult { return impl.RunBench(a.bench, text) }
	holdCall(t, fmt.Sprintf("RunBench by %q", brief(text)), benchArgs{b}, ask, want)
	if told := benchRunByWords(b, text); fmt.Sprint(told) != fmt.Sprint(want) {
		t.Errorf("%q: the words tell %s of %s, not %s", brief(text), brief(told), brief(b), brief(want))
	}
}

func holdRunByWords(t *testing.T, b impl.Bench, text string) impl.RunResult {
	t.Helper()
	want := benchRunByWords(b, text)
	holdRun(t, b, text, want)
	return want
}
