package syntax

// Name is a NAME of the text, and its place.
type Name struct {
	Text string
	At   int
}

// Digit is a DIGIT of the text, and its place.
type Digit struct {
	Value int
	At    int
}

// Model is all that a text says, in the text's order.
type Model struct {
	Sets   []Set
	Kinds  []Kind
	Vars   []Var
	Rules  []Rule
	Nevers []Never
}

type Set struct {
	Name Name
	Size Digit
}

type Kind struct {
	Name    Name
	Members []Name
}

// Form tells the simple types apart.
type Form int

const (
	Bool Form = iota
	To
	Named
)

// Simple is a simple type: Top is that of To, Name the set or kind of Named.
type Simple struct {
	Form Form
	Top  Digit
	Name Name
}

// Var is a variable; if it is an array, Over is the set that it is over, and Simple the type of each value.
type Var struct {
	Name    Name
	IsArray bool
	Over    Name
	Simple  Simple
}

type Param struct {
	Name Name
	Set  Name
}

type Rule struct {
	Name   Name
	Params []Param
	Guard  *Expr
	Block  []Stmt
}

type Never struct {
	Name   Name
	Params []Param
	Expr   *Expr
}

// Stmt is an if, with Expr, Then and Else, or it sets Place to Expr.
type Stmt struct {
	IsIf  bool
	Place Place
	Expr  *Expr
	Then  []Stmt
	Else  []Stmt
}

type Place struct {
	Name    Name
	Indexed bool
	Index   Name
}

// Op tells the expressions apart.
type Op int

const (
	True Op = iota
	False
	None
	Number
	Value
	Not
	And
	Or
	Equal
	Differ
	Less
	Plus
	Minus
)

// Expr is an expression: Digit is that of Number, Place that of Value; Not has Left alone, the ops behind it both sides. Brackets leave nothing in the tree, for none in brackets is as none without.
type Expr struct {
	Op    Op
	Digit int
	Place Place
	Left  *Expr
	Right *Expr
}
