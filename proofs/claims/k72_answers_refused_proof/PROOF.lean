import PyProof.Rows.All
import Wide.All
import OpenK.AllK
import Wide.FinOn
import KE.KStateDown
import HandS.ForMost
import HandS.Exc
import HandS.WordsExc
import HandS.Defaults
import HandS.IsInst
import HandS.Walk
import HandS.HeadHook1
import HandS.HeadHook2
import HandS.ExcField
import HandS.Deep
import HandS.DeepEq
import HandS.Small
import HandS.TupAny
import HandS.Set
import HandS.SetKeys
import HandS.SetFor
import HandS.Strs
import HandS.TupSets
import HandS.Style
import HandS.DictComp
import HandS.ExcInit
import KE.KNestM
import HandS.Lambda
import HandS.HeadEnd
import HandS.EndTab
import PyProof.ReprRoads
import PyProof.Rows.RegFStrParts
import PyProof.ListStr
import HandS.TryOnly
import HandS.HeadWalk
import Lean
import HandS.Head0
import HandS.Head1
import HandS.Head2
import PySem.Challenge.RW_refundtrees_k72_answers_refused
section
set_option Elab.async false
set_option linter.all false
set_option maxRecDepth 100000
set_option maxHeartbeats 4000000
/-! Refundtrees: what every law's proof shares: callees packed, isinstance answered, module ints. -/
namespace Rt
open PySem PySem.Spec PyProof.Rows L2

/-! ### a def of the module, packed: where it stands, how it binds, what it promises -/
structure Cal (P : Program) (w : World) (K : PySem.W.Frag) (mg : Str → Option Value) (base : Heap) (CX : CXT) (k : Nat) (x : Str) (ps : List Str) (sp : Sp) : Prop where
  ex : ∃ fd, Binds K fd ps [] ∧ FnOk P w K mg base CX k (He.ga K x) fd ps sp
  gm : mg x = some (.ref (He.ga K x))
  kp : PySem.W.keepIn K (.ref (He.ga K x)) = true
section
variable {X : Cx} {CX : CXT} {k : Nat} {x : Str} {ps : List Str} {sp : Sp} {E : XK} {e : Expr} {es : List Expr} {p pos : Pos} {t : TA}
theorem pe_cal (C : Cal X.prog X.w X.K X.mg X.base CX k x ps sp) (hr : Room k X.A) (hg : Gl X x) (hx : Passes CX X E) (ha : PA X (e :: es) t)
    (hdb : (x == ("__debug__" : Str)) = false := by decide) (h1 : starEach (e :: es) X.env = (false, eval e X.env) :: starEach es X.env := by rfl)
    (h2 : (backTo pos (starEach es X.env)).any (·.1) = false := by rfl) : PE X (.Call (.Name x p) (e :: es) [] pos) (tCall sp [] E t) := by
  obtain ⟨fd, b, F⟩ := C.ex
  exact pe_call F hr hg C.gm C.kp b .nil hx ha hdb h1 h2
end

/-! ### module ints and texts -/
section
variable {X : Cx} {x : Str} {pos : Pos}
theorem pe_gint {i : Int} (hg : Gl X x) (hm : ∃ t, X.mg x = some (.int i t)) (hd : (x == ("__debug__" : Str)) = false := by decide) : PE X (.Name x pos) (tC (.int i)) := by
  obtain ⟨t, h⟩ := hm
  exact pe_glob hg h ⟨_, rfl⟩ hd
theorem pe_gstr {z : Str} (hg : Gl X x) (hm : ∃ t, X.mg x = some (.str z t)) (hd : (x == ("__debug__" : Str)) = false := by decide) : PE X (.Name x pos) (tC (.str z)) := by
  obtain ⟨t, h⟩ := hm
  exact pe_glob hg h ⟨_, rfl⟩ hd
end

/-! ### what a value is, for isinstance -/
def kinds : List String := ["NoneType", "bool", "int", "str", "tuple", "list", "dict"]
/-- the value's type by its name -/
inductive Ts (K : PySem.W.Frag) (H : Hp) : V → String → Prop where
  | non : Ts K H .non "NoneType"
  | bl (b : Bool) : Ts K H (.bl b) "bool"
  | int (i : Int) : Ts K H (.int i) "int"
  | str (x : Str) : Ts K H (.str x) "str"
  | tup {a : Addr} {xs : List V} (h : SqT K H a xs) : Ts K H (.ref a) "tuple"
  | lst {a : Addr} {xs : List V} (h : H a = some (.lst xs)) : Ts K H (.ref a) "list"
  | dct {a : Addr} {kvs : List (Key × V)} (h : H a = some (.dK kvs)) : Ts K H (.ref a) "dict"
theorem Ts.x {K : PySem.W.Frag} {H : Hp} {x : V} {T : String} (h : Ts K H x T) : TyX K H x (.type T) := by
  cases h with
  | non => exact .base .non
  | bl b => exact .base (.bl b)
  | int i => exact .base (.int i)
  | str x => exact .base (.str x)
  | tup h =>
    rcases h with (h | ⟨_, h⟩) | ⟨_, _, _, e, c, _⟩
    · exact .base (.tup h)
    · exact .fTuple h
    · exact .kTuple e c
  | lst h => exact .base (.lst h)
  | dct h => exact .base (.dK h)
theorem Ts.mem {K : PySem.W.Frag} {H : Hp} {x : V} {T : String} (h : Ts K H x T) : T ∈ kinds := by
  cases h <;> decide
def asks : List String := ["int", "bool", "str", "list", "tuple", "dict"]
def answ (T c : String) : Bool := decide (T = c) || (decide (T = "bool") && decide (c = "int"))
theorem answ_all : (kinds.all fun T => asks.all fun c => decide (kitB T c = some (answ T c))) = true := by decide +kernel
theorem answ_of {T c : String} (hT : T ∈ kinds) (hc : c ∈ asks) {K : PySem.W.Frag} : PySem.W.kitOne K (.type T) (.type c) = some (answ T c) := by
  have h := List.all_eq_true.mp (List.all_eq_true.mp answ_all T hT) c hc
  exact kit_ty (of_decide_eq_true h)

/-- isinstance(x, c), c one built-in class -/
def rIs (K : PySem.W.Frag) (cn : String) : List V → Hp → VK → Prop := fun xs H Q => ∃ x T, xs = [x, .ty cn] ∧ Ts K H x T ∧ Q (.bl (answ T cn)) H
theorem call_is {X : Cx} {cn : String} (hc : cn ∈ asks) : CallR X (.builtin "isinstance") (fun xs H Q => ∃ x T, xs = [x, .ty cn] ∧ Ts X.K H x T ∧ Q (.bl (answ T cn)) H) := by
  intro pins s σ H xs us Q I r h
  obtain ⟨x, T, rfl, t, q⟩ := h
  exact call_isi pins s σ H _ us Q I r ⟨x, .ty cn, .type T, .type cn, _, rfl, .ty cn, t.x, answ_of t.mem hc, q⟩
/-- isinstance(x, (list, tuple)) -/
theorem call_isLT {X : Cx} : CallR X (.builtin "isinstance") (fun xs H Q => ∃ x T tp, xs = [x, .ref tp] ∧ H tp = some (.tup [.ty "list", .ty "tuple"]) ∧ Ts X.K H x T ∧ Q (.bl (decide (T = "list") || decide (T = "tuple"))) H) := by
  intro pins s σ H xs us Q I r h
  obtain ⟨x, T, tp, rfl, ht, t, q⟩ := h
  have e1 : answ T "list" = decide (T = "list") := by
    have h1 : decide (("list" : String) = "int") = false := by decide
    unfold answ
    rw [h1, Bool.and_false, Bool.or_false]
  have e2 : answ T "tuple" = decide (T = "tuple") := by
    have h1 : decide (("tuple" : String) = "int") = false := by decide
    unfold answ
    rw [h1, Bool.and_false, Bool.or_false]
  have k1 : PySem.W.kitOne X.K (.type T) (.type "list") = some (decide (T = "list")) := e1 ▸ answ_of t.mem (by decide)
  have k2 : PySem.W.kitOne X.K (.type T) (.type "tuple") = some (decide (T = "tuple")) := e2 ▸ answ_of t.mem (by decide)
  refine call_isiT pins s σ H _ us Q I r ⟨x, tp, [.ty "list", .ty "tuple"], .type T, [.type "list", .type "tuple"], _, rfl, ht, .cons (.ty _) (.cons (.ty _) .nil), t.x, ?_, q⟩
  refine kitAny_cons k1 (fun hf => ?_) (fun ht => by rw [ht, Bool.true_or])
  rw [hf, Bool.false_or]
  exact kitAny_cons k2 (fun hf => by rw [hf]; exact kitAny_nil) (fun ht => ht)
end Rt
namespace Rt
open PySem PySem.Spec PyProof.Rows L2
section
variable {P : Program} {w : World} {K : PySem.W.Frag} {mg : Str → Option Value} {base : Heap} {x qual : Str} {params : Arguments} {body : List Stmt} {scope : Scope} {f : Addr} {fd : FuncData} {N ps : List Str} {k : Nat} {sp : Sp}
/-- a def that lets nothing out -/
theorem ok0 (F : FunD K x qual params body scope [] [] f fd) (S : FnScope N ps scope) (len : ∀ vs H Q E, sp vs H Q E → vs.length = ps.length)
    (hbody : ∀ (cdv : Value) (A : Around) (outer : List Env) (s : Shared) (H : Hp) (vs : List V) (Q : VK) (E : XK), Room k (A.deeper (envOfC qual scope s.heap.objs.size f cdv)) → sp vs H Q E →
      ∃ t, PSs (cxOf CX0 P w K mg base N qual scope f cdv A outer s H E).nox body t ∧ t { nx := fun _ H' => Q .non H', rt := Q } (start N vs) H) : FnOk P w K mg base CX0 (k + 1) f fd ps sp :=
  F.ok S len fun cdv A outer s H vs Q E hr h => by
    obtain ⟨t, h1, h2⟩ := hbody cdv A outer s H vs Q E hr h
    exact ⟨t, PSs.nox h1, h2⟩
theorem Cal.of (ex : ∃ fd, FunD K x qual params body scope [] [] (He.ga K x) fd ∧ FnOk P w K mg base CX0 k (He.ga K x) fd ps sp) (gm : mg x = some (.ref (He.ga K x)))
    (h : ∀ (kV doc pm : Value) (an : Option Addr) (cdv ct : Value) (us : List Value), us.length = ps.length → bindArgs (PySem.W.fnOf x qual params body scope .none kV doc pm an cdv ct) ⟨us, []⟩ = pure (ps.zip us)) :
    Cal P w K mg base CX0 k x ps sp := by
  obtain ⟨fd, F, G⟩ := ex
  exact ⟨⟨fd, F.bindsN h, G⟩, gm, F.kp⟩
end
end Rt
namespace Rt
theorem ifT {c : Bool} {A B : Prop} (e : c = true) (h : A) : if c = true then A else B := by rw [if_pos e]; exact h
theorem ifF {c : Bool} {A B : Prop} (e : c = false) (h : B) : if c = true then A else B := by rw [if_neg (by rw [e]; decide)]; exact h
theorem ifB {c : Bool} {A B : Prop} (h1 : c = true → A) (h2 : c = false → B) : if c = true then A else B := by
  cases e : c with
  | true => exact ifT rfl (h1 e)
  | false => exact ifF rfl (h2 e)
end Rt
namespace Rt
open PySem PySem.Spec PyProof.Rows L2
/-! ### a comprehension whose turns leave what was tracked as it was: its list at D by the turn -/
structure LcP (H1 : Hp) (D : Addr) (L : Nat → List V) (i : Nat) (H : Hp) : Prop where
  same : Same H1 H
  at_ : H D = some (.lst (L i))
section
variable {H1 H : Hp} {D : Addr} {L : Nat → List V} {i : Nat}
theorem LcP.zero (nD : H1 D = none) (e : L 0 = []) : LcP H1 D L 0 (upd H1 D (.lst [])) := by
  refine ⟨fun b o h => ?_, by rw [upd_same, e]⟩
  rw [upd_ne (ne_of_none h nD)]
  exact h
theorem LcP.put {y : V} (h : LcP H1 D L i H) (nD : H1 D = none) (e : L (i + 1) = L i ++ [y]) (hl : (L i).length < sizeLine) : ∃ acc, H D = some (.lst acc) ∧ acc.length < sizeLine ∧ LcP H1 D L (i + 1) (upd H D (.lst (acc ++ [y]))) := by
  refine ⟨L i, h.at_, hl, fun b o hb => ?_, by rw [upd_same, e]⟩
  rw [upd_ne (ne_of_none hb nD)]
  exact h.same b o hb
theorem LcP.skip (h : LcP H1 D L i H) (e : L (i + 1) = L i) : LcP H1 D L (i + 1) H := ⟨h.same, by rw [e]; exact h.at_⟩
theorem LcP.ext {H' : Hp} (h : LcP H1 D L i H) (s : Same H H') : LcP H1 D L i H' := ⟨h.same.trans s, s _ _ h.at_⟩
end
theorem Same.new {H : Hp} {p : Addr} {o : HO} (n : H p = none) : Same H (upd H p o) := fun b u h => by
  rw [upd_ne (ne_of_none h n)]
  exact h
theorem take_one {α : Type} {xs : List α} {i : Nat} {x : α} (h : xs[i]? = some x) : xs.take (i + 1) = xs.take i ++ [x] := by
  rw [List.take_succ, h]
  rfl
theorem map_one {α β : Type} (f : α → β) {xs : List α} {i : Nat} {x : α} (h : xs[i]? = some x) : (xs.take (i + 1)).map f = (xs.take i).map f ++ [f x] := by
  rw [take_one h, List.map_append]
  rfl
theorem filt_one {α β : Type} (f : α → β) (p : α → Bool) {xs : List α} {i : Nat} {x : α} (h : xs[i]? = some x) (hp : p x = true) : ((xs.take (i + 1)).filter p).map f = ((xs.take i).filter p).map f ++ [f x] := by
  rw [take_one h, List.filter_append, List.map_append, List.filter_cons, if_pos hp]
  rfl
theorem filt_no {α β : Type} (f : α → β) (p : α → Bool) {xs : List α} {i : Nat} {x : α} (h : xs[i]? = some x) (hp : p x = false) : ((xs.take (i + 1)).filter p).map f = ((xs.take i).filter p).map f := by
  rw [take_one h, List.filter_append, List.filter_cons, if_neg (by rw [hp]; decide), List.filter_nil, List.append_nil]
theorem line_of {n m : Nat} (h : n ≤ m) (hm : m ≤ 100000) : n < sizeLine := by
  rw [sizeLine_eq]
  omega
end Rt
namespace Rt
open PySem PySem.Spec PyProof.Rows L2
/-! ### a list or a tuple -/
def Sq (K : PySem.W.Frag) (H : Hp) (a : Addr) (xs : List V) : Prop := SqL K H a xs ∨ SqT K H a xs
theorem sqT_same {K : PySem.W.Frag} {H H' : Hp} {a : Addr} {xs : List V} (e : Same H H') (h : SqT K H a xs) : SqT K H' a xs := by
  rcases h with (h | ⟨o, h⟩) | h
  · exact .inl (.inl (e _ _ h))
  · exact .inl (.inr ⟨o, e _ _ h⟩)
  · exact .inr h
theorem Sq.same {K : PySem.W.Frag} {H H' : Hp} {a : Addr} {xs : List V} (h : Sq K H a xs) (e : Same H H') : Sq K H' a xs := h.elim (fun h => .inl (e.seq h)) fun h => .inr (sqT_same e h)
section
variable {X : Cx} {tg : Expr}
def iSeq (K : PySem.W.Frag) (tl : TE) : TI := fun σ H R => tl σ H fun x H1 => ∃ a, x = .ref a ∧ (((∃ xs, SqL K H1 a xs) ∧ R (Itl K a) H1) ∨ ((∃ xs, SqT K H1 a xs) ∧ R (Itt K a) H1))
/-- what is walked is a list or a tuple -/
theorem pi_seq {l : Expr} {tl : TE} (hl : PE X l tl) : PI X tg l (iSeq X.K tl) := by
  refine ⟨fun pins s σ H R I h => ?_⟩
  refine thn (hl.run pins s σ H _ I h) fun v s1 ⟨x, H1, I1, r1, a, e, q1⟩ => ?_
  subst e
  have he : PE X l (fun _ H Q => Q (.ref a) H) → True := fun _ => trivial
  cases r1
  have pushed : ∀ {o : Obj}, Inv X pins σ H1 { s1 with heap := s1.heap.push o } := fun {o} => I1.kept (t' := s1.toks) fun b u e => Heap.get?_push_of_some _ e
  have own : ∀ b ∈ [s1.heap.objs.size], FpOk X pins H1 b := fun b hb => by
    rw [List.mem_singleton.mp hb]
    exact I1.fpOk (Nat.le_refl _) I1.fresh
  rcases q1 with ⟨⟨xs, hq⟩, q⟩ | ⟨⟨xs, hq⟩, q⟩
  · obtain ⟨its, rv, pl, _⟩ := I1.list hq
    exact wpAny_pyIter_list pl.isList ⟨s1.heap.objs.size, [s1.heap.objs.size], _, _, H1, rfl, pushed, turn_list a _, ⟨_, Heap.get?_push_size _ rfl, rfl, rfl⟩, own, q⟩
  · obtain ⟨its, rv, pl, _⟩ := I1.tuple hq
    exact wpAny_pyIter_tuple (show s1.heap.IsTuple a its.toArray from pl) ⟨s1.heap.objs.size, [s1.heap.objs.size], _, _, H1, rfl, pushed, turn_tuple a _, ⟨_, Heap.get?_push_size _ rfl, rfl, rfl⟩, own, q⟩
theorem seq_by {K : PySem.W.Frag} {H : Hp} {a : Addr} {xs : List V} {R : It → Hp → Prop} (h : Sq K H a xs) (f : ∀ (J : It) (G : Hp → Prop), Walk J xs.length G (YAt xs) → (∀ H', Same H H' → G H') → R J H) :
    ((∃ xs, SqL K H a xs) ∧ R (Itl K a) H) ∨ ((∃ xs, SqT K H a xs) ∧ R (Itt K a) H) := by
  rcases h with h | h
  · exact .inl ⟨⟨xs, h⟩, f _ _ walk_list fun H' e => e.seq h⟩
  · exact .inr ⟨⟨xs, h⟩, f _ _ walk_tup fun H' e => sqT_same e h⟩
end
/-- what a comprehension asks of the thing that it walks -/
abbrev LcR (g : TG) (tt : TT) (te : TE) (vs : List Nat) (σ : L2.St) (Q : Addr → Hp → Prop) : It → Hp → Prop := fun J H1 => ∀ D, H1 D = none → ∃ W : Nat → Nat → Hp → Prop, (∃ m, W 0 m (upd H1 D (.lst []))) ∧ ∀ i m H, W i m H →
  (J.stop i H ∧ Q D H) ∨ (J.go i H ∧ ∃ Nx : Hp → Prop, (∀ H', Nx H' → ∃ m', m' < m ∧ W (i + 1) m' H') ∧ ∀ x H', J.yld i H x H' → g x (wipe σ vs) H' fun σ2 H2 => wipe σ2 vs = wipe σ vs ∧ tt σ2 H2 fun b H3 =>
    if b = true then te σ2 H3 fun y H4 => ∃ acc, H4 D = some (.lst acc) ∧ acc.length < sizeLine ∧ Nx (upd H4 D (.lst (acc ++ [y]))) else Nx H3)
/-- a comprehension over a list or a tuple, its turns leaving what was tracked -/
theorem lc_seq {K : PySem.W.Frag} {H1 : Hp} {a : Addr} {xs : List V} {g : TG} {tt : TT} {te : TE} {vs : List Nat} {σ : L2.St} {Q : Addr → Hp → Prop} (h : Sq K H1 a xs) (L : Nat → List V) (h0 : L 0 = [])
    (turn : ∀ D, H1 D = none → ∀ i x H, xs[i]? = some x → LcP H1 D L i H → g x (wipe σ vs) H fun σ2 H2 => wipe σ2 vs = wipe σ vs ∧ tt σ2 H2 fun b H3 =>
      if b = true then te σ2 H3 fun y H4 => ∃ acc, H4 D = some (.lst acc) ∧ acc.length < sizeLine ∧ LcP H1 D L (i + 1) (upd H4 D (.lst (acc ++ [y]))) else LcP H1 D L (i + 1) H3)
    (fin : ∀ D H, H1 D = none → Same H1 H → H D = some (.lst (L xs.length)) → Q D H) :
    ((∃ xs, SqL K H1 a xs) ∧ LcR g tt te vs σ Q (Itl K a) H1) ∨ ((∃ xs, SqT K H1 a xs) ∧ LcR g tt te vs σ Q (Itt K a) H1) := by
  refine seq_by (R := LcR g tt te vs σ Q) h fun J G w g0 D nD => ?_
  refine lc_it w (LcP H1 D L) (LcP.zero nD h0) (fun i H _ p => g0 H p.same) ?_ (fun H p => fin D H nD p.same p.at_)
  rintro i x H2 H3 hi p ⟨rfl, hx⟩
  exact turn D nD i x H3 hx p
end Rt
end
section
set_option Elab.async false
set_option linter.all false
set_option maxRecDepth 100000
set_option maxHeartbeats 4000000
/-! try with two except clauses that both give the error the same name -/
namespace Rt
open PySem PySem.Spec PyProof.Rows L2
/-- behind a clause's suite its name is unbound -/
abbrev unset (i : Nat) (D : Ends) : Ends := { nx := fun τ G => D.nx (τ.set i none) G, rt := D.rt, bk := fun τ G => D.bk (τ.set i none) G, ct := fun τ G => D.ct (τ.set i none) G }
abbrev SuiteT : Type := Addr → Value → Option Addr → TS
/-- what a row of clauses wishes of an error -/
def wRow (K : PySem.W.Frag) (m i : Nat) (Wout : WX) (D : Ends) : List (Value × SuiteT) → WX
  | [] => Wout
  | (c, ts) :: more => fun cls d σ H => ∃ b, PySem.W.exmOne K cls c = some b ∧ (b = true → ∀ a, H a = none → σ.length = m → ts a cls d (unset i D) (σ.set i (some (.ref a))) H) ∧ (b = false → wRow K m i Wout D more cls d σ H)
/-- a row of clauses, each with the name n -/
inductive Row (X : Cx) (n : Str) : List ExceptHandler → List (Value × SuiteT) → Prop
  | nil : Row X n [] []
  | cons {x : Str} {c : Value} {ts : SuiteT} {b : Stmt} {bs : List Stmt} {p q : Pos} {hs : List ExceptHandler} {l : List (Value × SuiteT)} (hc : Names X x c)
      (su : ∀ (a : Addr) (oe : Obj) (cls : Value) (d : Option Addr) (pn : List (Addr × Obj)), Zc cls d oe → (∃ vs, oe.data = .fields vs) → PSs (X.suite a ((a, oe) :: pn)) (b :: bs) (ts a cls d)) (more : Row X n hs l) :
      Row X n (.ExceptHandler (some (.Name x p)) (some n) (b :: bs) q :: hs) ((c, ts) :: l)
section
variable {X : Cx} {n : Str} {i : Nat} {body : List Stmt} {hs : List ExceptHandler} {h₀ : ExceptHandler} {l : List (Value × SuiteT)} {pos : Pos} {tb : WX → TS} {Wout : WX}
/-- the error is in our hands: the row of clauses -/
theorem row_run {pins : List (Addr × Obj)} {D : Ends} {a : Addr} {B : Heap} {sI s3 : Shared} {τ : L2.St} {G : Hp} {cls : Value} {d : Option Addr} (stk : X.stack = X.env :: X.outer) (fr : X.env.frame = some X.env.locals) (nd : X.N.Nodup) (at_ : X.N[i]? = some n) (lo : X.env.kindOf n = some .local) (tk : Takes X Wout) (ok : X.Ok)
    (J : Inv X pins τ G sI) (nb : ∀ b o, sI.heap.get? b = some o → b ∉ frs X.stack → B.get? b = some o) (up : sI.heap.UpToSlots s3.heap) (fl : HandSPX.FlyingZ B (X.env :: X.outer) a (Zc cls d) s3.heap) (free : G a = none) (os : s3.os = sI.os) (ag : AllBare s3.gens)
    (row : Row X n hs l) : wRow X.K X.N.length i Wout D l cls d τ G → wpAny (model X.prog X.w) X.A (handleBy (.ref a) X.env hs) (SP X pins D) X.xe s3 := by
  obtain ⟨oe, vs, he, hz, hd⟩ := fl.there
  have J3 : Inv X pins τ G s3 := J.landed nb fl.1 up os ag
  have out : ∀ {h : Heap} {o : Obj} {us : Array Value}, h.FunFrames B (X.env :: X.outer) → h.get? a = some o → o.data = .fields us → a ∉ frs (X.env :: X.outer) := fun {h o us} ff e dd hm => by
    obtain ⟨_, o2, e2, no⟩ := ff.mem hm
    rw [e] at e2
    cases e2
    exact no _ dd
  have o1 := out fl.2.2.1 he hd
  have nL : a ≠ X.env.locals := fun z => o1 (List.mem_filterMap.mpr ⟨X.env, List.mem_cons_self, by rw [fr, z]⟩)
  have nF : a ∉ X.fs := fun hm => by
    obtain ⟨e, hin, q⟩ := List.mem_filterMap.mp hm
    exact o1 (List.mem_filterMap.mpr ⟨e, List.mem_cons_of_mem _ hin, q⟩)
  have S3 := J3.suite he hd free nL nF
  induction row with
  | nil =>
    intro w
    refine wpAny_handleBy_nil ?_
    obtain ⟨_, _, _, o4, v4, T, _, _, e4, z4, d4, t4, _⟩ := id fl
    have fin : wpAny (model X.prog X.w) X.A (setFlight (.ref a) X.env.frame) (fun _ s4 => wpAny (model X.prog X.w) X.A (throw (.ref a) : Sem Flow) (SP X pins D) X.xe s4) X.xe s3 := by
      rw [fr]
      exact HandSPX.setFlight_upZ fl fun h4 hh up4 => wpAny_throw (tk _ _ ⟨a, B, sI, pins, τ, G, cls, d, rfl, J, nb, up.trans up4, .inr (.inr (by rw [stk]; exact hh)), free, os, ag, w⟩)
    unfold PySem.passOn
    refine wpAny_bind (wpAny_field e4 d4 t4 ?_)
    rw [if_neg (show ¬ ((Value.ref T == Value.none) = true) by simp)]
    first
      | exact wpAny_bind (wpAny_pure (wpAny_bind fin))
      | exact wpAny_bind fin
  | @cons x c ts b bs p q hs l hc su more ih =>
    rintro ⟨yes, ans, w1, w0⟩
    refine wpAny_handleBy_cons (codeAny_handlers_test ?_) (fun z => nomatch z)
    have LT : PySem.W.Looks (model X.prog X.w) s3.heap (typeOf (.ref a)) cls := fun _ _ _ _ k q => wpAny_typeOf_ref (k _ _ he) (by rw [hz.1]; exact q)
    have LM := PySem.W.exm_one (M := model X.prog X.w) J3.kIn LT ans
    have name : ∀ {Q E : Value → Shared → Prop}, Q c s3 → wpAny (model X.prog X.w) (X.A.mark (some (.ref a))) (eval (.Name x p) X.env) Q E s3 := fun {Q E} q => by
      obtain ⟨g1, g2, g3 | ⟨g3, g4, g5⟩⟩ := hc
      · exact ld_glob (X := X.suite a ((a, oe) :: (X.pn ++ pins))) S3 g1 g3 q g2
      · exact ld_blt (X := X.suite a ((a, oe) :: (X.pn ++ pins))) S3 g1 g3 g4 q g5 g2
    refine name (LM.here ?_)
    cases yes with
    | false => exact ih (w0 rfl)
    | true =>
      refine codeAny_handlers_suite_as (HandSPX.lands_againZ fl fun h4 fl4 up4 => ?_)
      have J4 : Inv X pins τ G { s3 with heap := h4 } := J.landed nb fl4.1 (up.trans up4) os ag
      obtain ⟨oe4, vs4, he4, hz4, hd4⟩ := fl4.there
      refine store_ok (X := X.suite a ((a, oe4) :: (X.pn ++ pins))) (v := .ref a) (J4.suite he4 hd4 free nL nF) nd at_ (.inl lo) rfl (fun s5 S5 => ?_) (.inr lo)
      refine wpAny_mono ((su a oe4 cls d (X.pn ++ pins) hz4 ⟨_, hd4⟩).run [] s5 _ G _ S5 (w1 rfl a free J.len)) (fun f s6 hsp => ?_) (fun _ _ z => z.elim)
      have last : ∀ {τ6 : L2.St} {G6 : Hp} {Q : Shared → Prop}, Inv (X.suite a ((a, oe4) :: (X.pn ++ pins))) [] τ6 G6 s6 → (∀ s7, Inv X pins (τ6.set i none) G6 s7 → Q s7) →
          wpAny (model X.prog X.w) X.A (do bindName X.env n .none; unbindBehindTheSuite X.env n q) (fun _ s7 => Q s7) X.xe s6 := fun S6 k => gone_ok (S6.unsuite ok) nd at_ lo k
      match f, hsp with
      | .next, ⟨τ6, G6, S6, k⟩ => exact last S6 fun s7 J7 => ⟨_, _, J7, k⟩
      | .brk, ⟨τ6, G6, S6, k⟩ => exact last S6 fun s7 J7 => ⟨_, _, J7, k⟩
      | .cont, ⟨τ6, G6, S6, k⟩ => exact last S6 fun s7 J7 => ⟨_, _, J7, k⟩
      | .ret u, ⟨v6, τ6, G6, S6, r6, k⟩ => exact last S6 fun s7 J7 => ⟨_, _, _, J7, r6, k⟩
theorem ps_try_row (stk : X.stack = X.env :: X.outer) (fr : X.env.frame = some X.env.locals) (nd : X.N.Nodup) (at_ : X.N[i]? = some n) (lo : X.env.kindOf n = some .local) (tk : Takes X Wout)
    (hb : ∀ (W : WX) (pn : List (Addr × Obj)) (xe : Value → Shared → Prop), Takes (X.tr pn xe) W → PassesOwn (model X.prog X.w) X.A X.env xe → PSs (X.tr pn xe) body (tb W)) (row : Row X n (h₀ :: hs) l) :
    PS X (.Try body (h₀ :: hs) [] [] pos) (fun D σ H => tb (wRow X.K X.N.length i Wout D l) D σ H) := by
  refine ⟨fun pins s σ H D I h => wpAny_Try_except ?_⟩
  have ok := I.ok
  have frames : X.A.frames = some (X.env :: X.outer) := by rw [ok.frames, stk]
  let xe : Value → Shared → Prop := fun e s₁ => wpAny (model X.prog X.w) X.A (noteFrame e X.env) (fun _ s₂ => wpAny (model X.prog X.w) X.A (setFlight e none) (fun _ s₃ => wpAny (model X.prog X.w) X.A (handleBy e X.env (h₀ :: hs)) (SP X pins D) X.xe s₃) X.xe s₂) X.xe s₁
  have caught : Takes (X.tr (X.pn ++ pins) xe) (wRow X.K X.N.length i Wout D l) := fun u s' ⟨a, B, sI, pins', τ, G, cls, d, eu, J', nb, up, sky, na, os, ag, w⟩ => by
    subst eu
    have J : Inv X pins τ G sI := J'.ofTry ok
    have sky2 : Sky B (X.env :: X.outer) a (Zc cls d) X.env.locals s'.heap := by rw [← stk]; exact sky
    refine Sky.land Zc.steady frames fr sky2 fun h3 fl3 up3 => ?_
    exact row_run (s3 := { s' with heap := h3 }) stk fr nd at_ lo tk ok J nb (up.trans up3) fl3 na os ag row w
  refine wpAny_mono ((hb (wRow X.K X.N.length i Wout D l) (X.pn ++ pins) xe caught PassesOwn.looking).run [] s σ H D (I.toTry _) h) (fun f s1 hsp => ?_) (fun _ _ z => z)
  match f, hsp with
  | .next, ⟨τ, G, J, q⟩ => exact wpAny_execs_nil ⟨τ, G, J.ofTry ok, q⟩
  | .brk, ⟨τ, G, J, q⟩ => exact ⟨τ, G, J.ofTry ok, q⟩
  | .cont, ⟨τ, G, J, q⟩ => exact ⟨τ, G, J.ofTry ok, q⟩
  | .ret u, ⟨v, τ, G, J, r, q⟩ => exact ⟨v, τ, G, J.ofTry ok, r, q⟩
end
end Rt
end
section
set_option Elab.async false
set_option linter.all false
set_option maxRecDepth 100000
set_option maxHeartbeats 4000000
namespace Rt
open PySem PySem.Spec PyProof.Rows L2
/-! ### the text by places -/
def top (i : Nat) : Stmt := PySem.Challenge.pw_refundtrees_k72_answers_refused.main.body.getD i (.Pass ⟨0, 0, 0, 0⟩)
abbrev s_NoBook_init : Stmt := inClass (top 2) 0
abbrev s_NoSkill_init : Stmt := inClass (top 3) 0
abbrev s_NoBuild_init : Stmt := inClass (top 4) 0
abbrev s_NoStep_init : Stmt := inClass (top 5) 0
abbrev s_NoPlain_init : Stmt := inClass (top 6) 0
abbrev s_NoNumber_init : Stmt := inClass (top 7) 0
abbrev s_NoWorth_init : Stmt := inClass (top 8) 0
abbrev s_NoSeen_init : Stmt := inClass (top 9) 0
abbrev s_NoKind_init : Stmt := inClass (top 10) 0
abbrev s_NothingBack_init : Stmt := inClass (top 11) 0
abbrev s_NoNote_init : Stmt := inClass (top 12) 0
abbrev s_is_word : Stmt := top 16
abbrev s_is_one_of : Stmt := top 17
abbrev s_is_ordered : Stmt := top 18
abbrev s_are_unlike : Stmt := top 19
abbrev s_is_seen : Stmt := top 22
abbrev s_explains : Stmt := top 23
abbrev s_greatest_wants : Stmt := top 24
abbrev s_must : Stmt := top 25
abbrev s_may : Stmt := top 26
abbrev s_next_ask : Stmt := top 27
abbrev s_must_be_names : Stmt := top 28
abbrev s_must_be_seen : Stmt := top 29
abbrev s_is_answer : Stmt := top 30
abbrev s_are_wants_of_all : Stmt := top 31
abbrev s_is_explained : Stmt := top 32
abbrev s_most_wanted : Stmt := top 33
abbrev s_law_pool : Stmt := top 35
abbrev s_law_take : Stmt := top 36
abbrev s_law_one : Stmt := top 37
abbrev s_law_caught : Stmt := top 38
abbrev s_law_told_names : Stmt := top 39
abbrev s_law_parts : Stmt := top 40
abbrev s_law_answers : Stmt := top 41
abbrev s_law_bad_names : Stmt := top 42
abbrev s_law_bad_seen : Stmt := top 43
abbrev s_law_all_refused : Stmt := top 44
abbrev s_law : Stmt := top 45
theorem sc_NoBook_init : FnScope ["self", "part"] ["self", "part"] (defScope s_NoBook_init) := ⟨rfl, rfl, rfl, by decide +kernel, rfl, by decide +kernel, by decide +kernel⟩
theorem sc_NoSkill_init : FnScope ["self", "skill"] ["self", "skill"] (defScope s_NoSkill_init) := ⟨rfl, rfl, rfl, by decide +kernel, rfl, by decide +kernel, by decide +kernel⟩
theorem sc_NoBuild_init : FnScope ["self", "build"] ["self", "build"] (defScope s_NoBuild_init) := ⟨rfl, rfl, rfl, by decide +kernel, rfl, by decide +kernel, by decide +kernel⟩
theorem sc_NoStep_init : FnScope ["self", "step"] ["self", "step"] (defScope s_NoStep_init) := ⟨rfl, rfl, rfl, by decide +kernel, rfl, by decide +kernel, by decide +kernel⟩
theorem sc_NoPlain_init : FnScope ["self", "book"] ["self", "book"] (defScope s_NoPlain_init) := ⟨rfl, rfl, rfl, by decide +kernel, rfl, by decide +kernel, by decide +kernel⟩
theorem sc_NoNumber_init : FnScope ["self", "value"] ["self", "value"] (defScope s_NoNumber_init) := ⟨rfl, rfl, rfl, by decide +kernel, rfl, by decide +kernel, by decide +kernel⟩
theorem sc_NoWorth_init : FnScope ["self", "worths"] ["self", "worths"] (defScope s_NoWorth_init) := ⟨rfl, rfl, rfl, by decide +kernel, rfl, by decide +kernel, by decide +kernel⟩
theorem sc_NoSeen_init : FnScope ["self", "seen"] ["self", "seen"] (defScope s_NoSeen_init) := ⟨rfl, rfl, rfl, by decide +kernel, rfl, by decide +kernel, by decide +kernel⟩
theorem sc_NoKind_init : FnScope ["self", "kind"] ["self", "kind"] (defScope s_NoKind_init) := ⟨rfl, rfl, rfl, by decide +kernel, rfl, by decide +kernel, by decide +kernel⟩
theorem sc_NothingBack_init : FnScope ["self", "many"] ["self", "many"] (defScope s_NothingBack_init) := ⟨rfl, rfl, rfl, by decide +kernel, rfl, by decide +kernel, by decide +kernel⟩
theorem sc_NoNote_init : FnScope ["self", "line"] ["self", "line"] (defScope s_NoNote_init) := ⟨rfl, rfl, rfl, by decide +kernel, rfl, by decide +kernel, by decide +kernel⟩
theorem sc_is_word : FnScope ["value", "sign"] ["value"] (defScope s_is_word) := ⟨rfl, rfl, rfl, by decide +kernel, rfl, by decide +kernel, by decide +kernel⟩
theorem sc_is_one_of : FnScope ["names", "value"] ["names", "value"] (defScope s_is_one_of) := ⟨rfl, rfl, rfl, by decide +kernel, rfl, by decide +kernel, by decide +kernel⟩
theorem sc_is_ordered : FnScope ["names", "value", "name"] ["names", "value"] (defScope s_is_ordered) := ⟨rfl, rfl, rfl, by decide +kernel, rfl, by decide +kernel, by decide +kernel⟩
theorem sc_are_unlike : FnScope ["names", "values", "value"] ["names", "values"] (defScope s_are_unlike) := ⟨rfl, rfl, rfl, by decide +kernel, rfl, by decide +kernel, by decide +kernel⟩
theorem sc_is_seen : FnScope ["names", "value", "row"] ["names", "value"] (defScope s_is_seen) := ⟨rfl, rfl, rfl, by decide +kernel, rfl, by decide +kernel, by decide +kernel⟩
theorem sc_explains : FnScope ["names", "wants", "seen", "skill"] ["names", "wants", "seen"] (defScope s_explains) := ⟨rfl, rfl, rfl, by decide +kernel, rfl, by decide +kernel, by decide +kernel⟩
theorem sc_greatest_wants : FnScope ["names", "seen", "wants", "skill"] ["names", "seen"] (defScope s_greatest_wants) := ⟨rfl, rfl, rfl, by decide +kernel, rfl, by decide +kernel, by decide +kernel⟩
theorem sc_must : FnScope ["names", "seen", "skill", "most", "name", "other"] ["names", "seen", "skill"] (defScope s_must) := ⟨rfl, rfl, rfl, by decide +kernel, rfl, by decide +kernel, by decide +kernel⟩
theorem sc_may : FnScope ["names", "seen", "skill", "wants"] ["names", "seen", "skill"] (defScope s_may) := ⟨rfl, rfl, rfl, by decide +kernel, rfl, by decide +kernel, by decide +kernel⟩
theorem sc_next_ask : FnScope ["names", "seen", "skill"] ["names", "seen", "skill"] (defScope s_next_ask) := ⟨rfl, rfl, rfl, by decide +kernel, rfl, by decide +kernel, by decide +kernel⟩
theorem sc_must_be_names : FnScope ["names", "name"] ["names"] (defScope s_must_be_names) := ⟨rfl, rfl, rfl, by decide +kernel, rfl, by decide +kernel, by decide +kernel⟩
theorem sc_must_be_seen : FnScope ["names", "seen"] ["names", "seen"] (defScope s_must_be_seen) := ⟨rfl, rfl, rfl, by decide +kernel, rfl, by decide +kernel, by decide +kernel⟩
theorem sc_is_answer : FnScope ["names", "row", "build", "skill", "let"] ["names", "row"] (defScope s_is_answer) := ⟨rfl, rfl, rfl, by decide +kernel, rfl, by decide +kernel, by decide +kernel⟩
theorem sc_are_wants_of_all : FnScope ["names", "value", "skill"] ["names", "value"] (defScope s_are_wants_of_all) := ⟨rfl, rfl, rfl, by decide +kernel, rfl, by decide +kernel, by decide +kernel⟩
theorem sc_is_explained : FnScope ["want", "seen", "skill", "answers", "build", "asked", "let", "name"] ["want", "seen", "skill"] (defScope s_is_explained) := ⟨rfl, rfl, rfl, by decide +kernel, rfl, by decide +kernel, by decide +kernel⟩
theorem sc_most_wanted : FnScope ["names", "seen", "skill", "builds", "build", "asked", "let", "name"] ["names", "seen", "skill"] (defScope s_most_wanted) := ⟨rfl, rfl, rfl, by decide +kernel, rfl, by decide +kernel, by decide +kernel⟩
theorem sc_law_pool : FnScope ["_law_script", "_law_k", "_law_cell", "_law_big", "_law_mixed"] ["_law_script", "_law_k"] (defScope s_law_pool) := ⟨rfl, rfl, rfl, by decide +kernel, rfl, by decide +kernel, by decide +kernel⟩
theorem sc_law_take : FnScope ["_law_pool_here", "_law_bound", "_law_result"] ["_law_pool_here", "_law_bound"] (defScope s_law_take) := ⟨rfl, rfl, rfl, by decide +kernel, rfl, by decide +kernel, by decide +kernel⟩
theorem sc_law_one : FnScope ["_law_pool_here", "_law_things"] ["_law_pool_here", "_law_things"] (defScope s_law_one) := ⟨rfl, rfl, rfl, by decide +kernel, rfl, by decide +kernel, by decide +kernel⟩
theorem sc_law_caught : FnScope ["_law_call", "e"] ["_law_call"] (defScope s_law_caught) := ⟨rfl, rfl, rfl, by decide +kernel, rfl, by decide +kernel, by decide +kernel⟩
theorem sc_law_told_names : FnScope ["_law_pool_here", "_law_top", "_law_some"] ["_law_pool_here", "_law_top"] (defScope s_law_told_names) := ⟨rfl, rfl, rfl, by decide +kernel, rfl, by decide +kernel, by decide +kernel⟩
theorem sc_law_parts : FnScope ["_law_some", "_law_found", "_law_name", "_law_row"] ["_law_some"] (defScope s_law_parts) := ⟨rfl, rfl, rfl, by decide +kernel, rfl, by decide +kernel, by decide +kernel⟩
theorem sc_law_answers : FnScope ["_law_pool_here", "_law_names", "_law_many", "_law_wants", "_law_name", "_law_found", "_law_turn", "_law_skill", "_law_build", "_law_lets", "_law_other"] ["_law_pool_here", "_law_names", "_law_many"] (defScope s_law_answers) := ⟨rfl, rfl, rfl, by decide +kernel, rfl, by decide +kernel, by decide +kernel⟩
theorem sc_law_bad_names : FnScope [] [] (defScope s_law_bad_names) := ⟨rfl, rfl, rfl, by decide +kernel, rfl, by decide +kernel, by decide +kernel⟩
theorem sc_law_bad_seen : FnScope ["_law_names", "_law_found"] ["_law_names"] (defScope s_law_bad_seen) := ⟨rfl, rfl, rfl, by decide +kernel, rfl, by decide +kernel, by decide +kernel⟩
theorem sc_law_all_refused : FnScope ["_law_names", "_law_seen", "_law_skill", "_law_found"] ["_law_names", "_law_seen", "_law_skill"] (defScope s_law_all_refused) := ⟨rfl, rfl, rfl, by decide +kernel, rfl, by decide +kernel, by decide +kernel⟩
theorem sc_law : FnScope ["_law_script", "_law_k", "_law_pool_here", "_law_names", "_law_odd", "_law_seen"] ["_law_script"] (defScope s_law) := ⟨rfl, rfl, rfl, by decide +kernel, rfl, by decide +kernel, by decide +kernel⟩
/-! ### the facts of the top -/
def dG (i : Nat) (x : Str) : He.DefD := ⟨(x, none), x, x, defArgs (top i), defBody (top i), defScope (top i), [], []⟩
def dM (c : Str) (i j : Nat) (m q : Str) : He.DefD := ⟨(c, some m), m, q, defArgs (inClass (top i) j), defBody (inClass (top i) j), defScope (inClass (top i) j), [], []⟩
def fn : List He.DefD := [dG 16 "is_word", dG 17 "is_one_of", dG 18 "is_ordered", dG 19 "are_unlike", dG 22 "is_seen", dG 23 "explains", dG 24 "greatest_wants", dG 25 "must", dG 26 "may", dG 27 "next_ask", dG 28 "must_be_names", dG 29 "must_be_seen", dG 30 "is_answer", dG 31 "are_wants_of_all", dG 32 "is_explained", dG 33 "most_wanted", dG 35 "_law_pool", dG 36 "_law_take", dG 37 "_law_one", dG 38 "_law_caught", dG 39 "_law_told_names", dG 40 "_law_parts", dG 41 "_law_answers", dG 42 "_law_bad_names", dG 43 "_law_bad_seen", dG 44 "_law_all_refused", dG 45 "law", dM "NoBook" 2 0 "__init__" "NoBook.__init__", dM "NoSkill" 3 0 "__init__" "NoSkill.__init__", dM "NoBuild" 4 0 "__init__" "NoBuild.__init__", dM "NoStep" 5 0 "__init__" "NoStep.__init__", dM "NoPlain" 6 0 "__init__" "NoPlain.__init__", dM "NoNumber" 7 0 "__init__" "NoNumber.__init__", dM "NoWorth" 8 0 "__init__" "NoWorth.__init__", dM "NoSeen" 9 0 "__init__" "NoSeen.__init__", dM "NoKind" 10 0 "__init__" "NoKind.__init__", dM "NothingBack" 11 0 "__init__" "NothingBack.__init__", dM "NoNote" 12 0 "__init__" "NoNote.__init__"]
def fa : List He.Fa := [.glo "is_word", .glo "is_one_of", .glo "is_ordered", .glo "are_unlike", .glo "is_seen", .glo "explains", .glo "greatest_wants", .glo "must", .glo "may", .glo "next_ask", .glo "must_be_names", .glo "must_be_seen", .glo "is_answer", .glo "are_wants_of_all", .glo "is_explained", .glo "most_wanted", .glo "_law_pool", .glo "_law_take", .glo "_law_one", .glo "_law_caught", .glo "_law_told_names", .glo "_law_parts", .glo "_law_answers", .glo "_law_bad_names", .glo "_law_bad_seen", .glo "_law_all_refused", .glo "law", .free "len", .free "isinstance", .free "int", .free "str", .free "bool", .free "list", .free "tuple", .free "dict", .free "set", .free "sorted", .free "all", .free "any", .free "sum", .free "min", .free "max", .free "range", .free "repr", .free "iter", .int "LONGEST_WORD" 8, .int "MOST_SKILLS" 12, .str "SMALL_LETTERS" "abcdefghijklmnopqrstuvwxyz", .glo "NoBook", .noat "NoBook" "part", .glo "NoSkill", .noat "NoSkill" "skill", .glo "NoBuild", .noat "NoBuild" "build", .glo "NoStep", .noat "NoStep" "step", .glo "NoPlain", .noat "NoPlain" "book", .glo "NoNumber", .noat "NoNumber" "value", .glo "NoWorth", .noat "NoWorth" "worths", .glo "NoSeen", .noat "NoSeen" "seen", .glo "NoKind", .noat "NoKind" "kind", .glo "NothingBack", .noat "NothingBack" "many", .glo "NoNote", .noat "NoNote" "line", .exm "NoBook" "NoBook" true, .exm "NoBook" "NoSkill" false, .exm "NoBook" "NoBuild" false, .exm "NoBook" "NoStep" false, .exm "NoBook" "NoPlain" false, .exm "NoBook" "NoNumber" false, .exm "NoBook" "NoWorth" false, .exm "NoBook" "NoSeen" false, .exm "NoBook" "NoKind" false, .exm "NoBook" "NothingBack" false, .exm "NoBook" "NoNote" false, .exm "NoSkill" "NoBook" false, .exm "NoSkill" "NoSkill" true, .exm "NoSkill" "NoBuild" false, .exm "NoSkill" "NoStep" false, .exm "NoSkill" "NoPlain" false, .exm "NoSkill" "NoNumber" false, .exm "NoSkill" "NoWorth" false, .exm "NoSkill" "NoSeen" false, .exm "NoSkill" "NoKind" false, .exm "NoSkill" "NothingBack" false, .exm "NoSkill" "NoNote" false, .exm "NoBuild" "NoBook" false, .exm "NoBuild" "NoSkill" false, .exm "NoBuild" "NoBuild" true, .exm "NoBuild" "NoStep" false, .exm "NoBuild" "NoPlain" false, .exm "NoBuild" "NoNumber" false, .exm "NoBuild" "NoWorth" false, .exm "NoBuild" "NoSeen" false, .exm "NoBuild" "NoKind" false, .exm "NoBuild" "NothingBack" false, .exm "NoBuild" "NoNote" false, .exm "NoStep" "NoBook" false, .exm "NoStep" "NoSkill" false, .exm "NoStep" "NoBuild" false, .exm "NoStep" "NoStep" true, .exm "NoStep" "NoPlain" false, .exm "NoStep" "NoNumber" false, .exm "NoStep" "NoWorth" false, .exm "NoStep" "NoSeen" false, .exm "NoStep" "NoKind" false, .exm "NoStep" "NothingBack" false, .exm "NoStep" "NoNote" false, .exm "NoPlain" "NoBook" false, .exm "NoPlain" "NoSkill" false, .exm "NoPlain" "NoBuild" false, .exm "NoPlain" "NoStep" false, .exm "NoPlain" "NoPlain" true, .exm "NoPlain" "NoNumber" false, .exm "NoPlain" "NoWorth" false, .exm "NoPlain" "NoSeen" false, .exm "NoPlain" "NoKind" false, .exm "NoPlain" "NothingBack" false, .exm "NoPlain" "NoNote" false, .exm "NoNumber" "NoBook" false, .exm "NoNumber" "NoSkill" false, .exm "NoNumber" "NoBuild" false, .exm "NoNumber" "NoStep" false, .exm "NoNumber" "NoPlain" false, .exm "NoNumber" "NoNumber" true, .exm "NoNumber" "NoWorth" false, .exm "NoNumber" "NoSeen" false, .exm "NoNumber" "NoKind" false, .exm "NoNumber" "NothingBack" false, .exm "NoNumber" "NoNote" false, .exm "NoWorth" "NoBook" false, .exm "NoWorth" "NoSkill" false, .exm "NoWorth" "NoBuild" false, .exm "NoWorth" "NoStep" false, .exm "NoWorth" "NoPlain" false, .exm "NoWorth" "NoNumber" false, .exm "NoWorth" "NoWorth" true, .exm "NoWorth" "NoSeen" false, .exm "NoWorth" "NoKind" false, .exm "NoWorth" "NothingBack" false, .exm "NoWorth" "NoNote" false, .exm "NoSeen" "NoBook" false, .exm "NoSeen" "NoSkill" false, .exm "NoSeen" "NoBuild" false, .exm "NoSeen" "NoStep" false, .exm "NoSeen" "NoPlain" false, .exm "NoSeen" "NoNumber" false, .exm "NoSeen" "NoWorth" false, .exm "NoSeen" "NoSeen" true, .exm "NoSeen" "NoKind" false, .exm "NoSeen" "NothingBack" false, .exm "NoSeen" "NoNote" false, .exm "NoKind" "NoBook" false, .exm "NoKind" "NoSkill" false, .exm "NoKind" "NoBuild" false, .exm "NoKind" "NoStep" false, .exm "NoKind" "NoPlain" false, .exm "NoKind" "NoNumber" false, .exm "NoKind" "NoWorth" false, .exm "NoKind" "NoSeen" false, .exm "NoKind" "NoKind" true, .exm "NoKind" "NothingBack" false, .exm "NoKind" "NoNote" false, .exm "NothingBack" "NoBook" false, .exm "NothingBack" "NoSkill" false, .exm "NothingBack" "NoBuild" false, .exm "NothingBack" "NoStep" false, .exm "NothingBack" "NoPlain" false, .exm "NothingBack" "NoNumber" false, .exm "NothingBack" "NoWorth" false, .exm "NothingBack" "NoSeen" false, .exm "NothingBack" "NoKind" false, .exm "NothingBack" "NothingBack" true, .exm "NothingBack" "NoNote" false, .exm "NoNote" "NoBook" false, .exm "NoNote" "NoSkill" false, .exm "NoNote" "NoBuild" false, .exm "NoNote" "NoStep" false, .exm "NoNote" "NoPlain" false, .exm "NoNote" "NoNumber" false, .exm "NoNote" "NoWorth" false, .exm "NoNote" "NoSeen" false, .exm "NoNote" "NoKind" false, .exm "NoNote" "NothingBack" false, .exm "NoNote" "NoNote" true]
structure All (K : PySem.W.Frag) (mg : Str → Option Value) : Prop where
  s : He.SaysD fa fn K
  hp : ∃ h : Heap, K.In h ∧ h.Ns mainGlobals mg
section
variable {K : PySem.W.Frag} {mg : Str → Option Value}
theorem All.g_is_word (Z : All K mg) : mg "is_word" = some (.ref (He.ga K "is_word")) := let ⟨_, X, G⟩ := Z.hp; He.glo_ok X G (Z.s.fact 0 (f := .glo "is_word") rfl)
theorem All.g_is_one_of (Z : All K mg) : mg "is_one_of" = some (.ref (He.ga K "is_one_of")) := let ⟨_, X, G⟩ := Z.hp; He.glo_ok X G (Z.s.fact 1 (f := .glo "is_one_of") rfl)
theorem All.g_is_ordered (Z : All K mg) : mg "is_ordered" = some (.ref (He.ga K "is_ordered")) := let ⟨_, X, G⟩ := Z.hp; He.glo_ok X G (Z.s.fact 2 (f := .glo "is_ordered") rfl)
theorem All.g_are_unlike (Z : All K mg) : mg "are_unlike" = some (.ref (He.ga K "are_unlike")) := let ⟨_, X, G⟩ := Z.hp; He.glo_ok X G (Z.s.fact 3 (f := .glo "are_unlike") rfl)
theorem All.g_is_seen (Z : All K mg) : mg "is_seen" = some (.ref (He.ga K "is_seen")) := let ⟨_, X, G⟩ := Z.hp; He.glo_ok X G (Z.s.fact 4 (f := .glo "is_seen") rfl)
theorem All.g_explains (Z : All K mg) : mg "explains" = some (.ref (He.ga K "explains")) := let ⟨_, X, G⟩ := Z.hp; He.glo_ok X G (Z.s.fact 5 (f := .glo "explains") rfl)
theorem All.g_greatest_wants (Z : All K mg) : mg "greatest_wants" = some (.ref (He.ga K "greatest_wants")) := let ⟨_, X, G⟩ := Z.hp; He.glo_ok X G (Z.s.fact 6 (f := .glo "greatest_wants") rfl)
theorem All.g_must (Z : All K mg) : mg "must" = some (.ref (He.ga K "must")) := let ⟨_, X, G⟩ := Z.hp; He.glo_ok X G (Z.s.fact 7 (f := .glo "must") rfl)
theorem All.g_may (Z : All K mg) : mg "may" = some (.ref (He.ga K "may")) := let ⟨_, X, G⟩ := Z.hp; He.glo_ok X G (Z.s.fact 8 (f := .glo "may") rfl)
theorem All.g_next_ask (Z : All K mg) : mg "next_ask" = some (.ref (He.ga K "next_ask")) := let ⟨_, X, G⟩ := Z.hp; He.glo_ok X G (Z.s.fact 9 (f := .glo "next_ask") rfl)
theorem All.g_must_be_names (Z : All K mg) : mg "must_be_names" = some (.ref (He.ga K "must_be_names")) := let ⟨_, X, G⟩ := Z.hp; He.glo_ok X G (Z.s.fact 10 (f := .glo "must_be_names") rfl)
theorem All.g_must_be_seen (Z : All K mg) : mg "must_be_seen" = some (.ref (He.ga K "must_be_seen")) := let ⟨_, X, G⟩ := Z.hp; He.glo_ok X G (Z.s.fact 11 (f := .glo "must_be_seen") rfl)
theorem All.g_is_answer (Z : All K mg) : mg "is_answer" = some (.ref (He.ga K "is_answer")) := let ⟨_, X, G⟩ := Z.hp; He.glo_ok X G (Z.s.fact 12 (f := .glo "is_answer") rfl)
theorem All.g_are_wants_of_all (Z : All K mg) : mg "are_wants_of_all" = some (.ref (He.ga K "are_wants_of_all")) := let ⟨_, X, G⟩ := Z.hp; He.glo_ok X G (Z.s.fact 13 (f := .glo "are_wants_of_all") rfl)
theorem All.g_is_explained (Z : All K mg) : mg "is_explained" = some (.ref (He.ga K "is_explained")) := let ⟨_, X, G⟩ := Z.hp; He.glo_ok X G (Z.s.fact 14 (f := .glo "is_explained") rfl)
theorem All.g_most_wanted (Z : All K mg) : mg "most_wanted" = some (.ref (He.ga K "most_wanted")) := let ⟨_, X, G⟩ := Z.hp; He.glo_ok X G (Z.s.fact 15 (f := .glo "most_wanted") rfl)
theorem All.g_law_pool (Z : All K mg) : mg "_law_pool" = some (.ref (He.ga K "_law_pool")) := let ⟨_, X, G⟩ := Z.hp; He.glo_ok X G (Z.s.fact 16 (f := .glo "_law_pool") rfl)
theorem All.g_law_take (Z : All K mg) : mg "_law_take" = some (.ref (He.ga K "_law_take")) := let ⟨_, X, G⟩ := Z.hp; He.glo_ok X G (Z.s.fact 17 (f := .glo "_law_take") rfl)
theorem All.g_law_one (Z : All K mg) : mg "_law_one" = some (.ref (He.ga K "_law_one")) := let ⟨_, X, G⟩ := Z.hp; He.glo_ok X G (Z.s.fact 18 (f := .glo "_law_one") rfl)
theorem All.g_law_caught (Z : All K mg) : mg "_law_caught" = some (.ref (He.ga K "_law_caught")) := let ⟨_, X, G⟩ := Z.hp; He.glo_ok X G (Z.s.fact 19 (f := .glo "_law_caught") rfl)
theorem All.g_law_told_names (Z : All K mg) : mg "_law_told_names" = some (.ref (He.ga K "_law_told_names")) := let ⟨_, X, G⟩ := Z.hp; He.glo_ok X G (Z.s.fact 20 (f := .glo "_law_told_names") rfl)
theorem All.g_law_parts (Z : All K mg) : mg "_law_parts" = some (.ref (He.ga K "_law_parts")) := let ⟨_, X, G⟩ := Z.hp; He.glo_ok X G (Z.s.fact 21 (f := .glo "_law_parts") rfl)
theorem All.g_law_answers (Z : All K mg) : mg "_law_answers" = some (.ref (He.ga K "_law_answers")) := let ⟨_, X, G⟩ := Z.hp; He.glo_ok X G (Z.s.fact 22 (f := .glo "_law_answers") rfl)
theorem All.g_law_bad_names (Z : All K mg) : mg "_law_bad_names" = some (.ref (He.ga K "_law_bad_names")) := let ⟨_, X, G⟩ := Z.hp; He.glo_ok X G (Z.s.fact 23 (f := .glo "_law_bad_names") rfl)
theorem All.g_law_bad_seen (Z : All K mg) : mg "_law_bad_seen" = some (.ref (He.ga K "_law_bad_seen")) := let ⟨_, X, G⟩ := Z.hp; He.glo_ok X G (Z.s.fact 24 (f := .glo "_law_bad_seen") rfl)
theorem All.g_law_all_refused (Z : All K mg) : mg "_law_all_refused" = some (.ref (He.ga K "_law_all_refused")) := let ⟨_, X, G⟩ := Z.hp; He.glo_ok X G (Z.s.fact 25 (f := .glo "_law_all_refused") rfl)
theorem All.g_law (Z : All K mg) : mg "law" = some (.ref (He.ga K "law")) := let ⟨_, X, G⟩ := Z.hp; He.glo_ok X G (Z.s.fact 26 (f := .glo "law") rfl)
theorem All.b_len (Z : All K mg) : mg "len" = none := let ⟨_, X, G⟩ := Z.hp; He.free_ok X G (Z.s.fact 27 (f := .free "len") rfl)
theorem All.b_isinstance (Z : All K mg) : mg "isinstance" = none := let ⟨_, X, G⟩ := Z.hp; He.free_ok X G (Z.s.fact 28 (f := .free "isinstance") rfl)
theorem All.b_int (Z : All K mg) : mg "int" = none := let ⟨_, X, G⟩ := Z.hp; He.free_ok X G (Z.s.fact 29 (f := .free "int") rfl)
theorem All.b_str (Z : All K mg) : mg "str" = none := let ⟨_, X, G⟩ := Z.hp; He.free_ok X G (Z.s.fact 30 (f := .free "str") rfl)
theorem All.b_bool (Z : All K mg) : mg "bool" = none := let ⟨_, X, G⟩ := Z.hp; He.free_ok X G (Z.s.fact 31 (f := .free "bool") rfl)
theorem All.b_list (Z : All K mg) : mg "list" = none := let ⟨_, X, G⟩ := Z.hp; He.free_ok X G (Z.s.fact 32 (f := .free "list") rfl)
theorem All.b_tuple (Z : All K mg) : mg "tuple" = none := let ⟨_, X, G⟩ := Z.hp; He.free_ok X G (Z.s.fact 33 (f := .free "tuple") rfl)
theorem All.b_dict (Z : All K mg) : mg "dict" = none := let ⟨_, X, G⟩ := Z.hp; He.free_ok X G (Z.s.fact 34 (f := .free "dict") rfl)
theorem All.b_set (Z : All K mg) : mg "set" = none := let ⟨_, X, G⟩ := Z.hp; He.free_ok X G (Z.s.fact 35 (f := .free "set") rfl)
theorem All.b_sorted (Z : All K mg) : mg "sorted" = none := let ⟨_, X, G⟩ := Z.hp; He.free_ok X G (Z.s.fact 36 (f := .free "sorted") rfl)
theorem All.b_all (Z : All K mg) : mg "all" = none := let ⟨_, X, G⟩ := Z.hp; He.free_ok X G (Z.s.fact 37 (f := .free "all") rfl)
theorem All.b_any (Z : All K mg) : mg "any" = none := let ⟨_, X, G⟩ := Z.hp; He.free_ok X G (Z.s.fact 38 (f := .free "any") rfl)
theorem All.b_sum (Z : All K mg) : mg "sum" = none := let ⟨_, X, G⟩ := Z.hp; He.free_ok X G (Z.s.fact 39 (f := .free "sum") rfl)
theorem All.b_min (Z : All K mg) : mg "min" = none := let ⟨_, X, G⟩ := Z.hp; He.free_ok X G (Z.s.fact 40 (f := .free "min") rfl)
theorem All.b_max (Z : All K mg) : mg "max" = none := let ⟨_, X, G⟩ := Z.hp; He.free_ok X G (Z.s.fact 41 (f := .free "max") rfl)
theorem All.b_range (Z : All K mg) : mg "range" = none := let ⟨_, X, G⟩ := Z.hp; He.free_ok X G (Z.s.fact 42 (f := .free "range") rfl)
theorem All.b_repr (Z : All K mg) : mg "repr" = none := let ⟨_, X, G⟩ := Z.hp; He.free_ok X G (Z.s.fact 43 (f := .free "repr") rfl)
theorem All.b_iter (Z : All K mg) : mg "iter" = none := let ⟨_, X, G⟩ := Z.hp; He.free_ok X G (Z.s.fact 44 (f := .free "iter") rfl)
theorem All.LONGEST_WORD (Z : All K mg) : ∃ t, mg "LONGEST_WORD" = some (.int 8 t) := let ⟨_, X, G⟩ := Z.hp; He.int_ok X G (Z.s.fact 45 (f := .int "LONGEST_WORD" 8) rfl)
theorem All.MOST_SKILLS (Z : All K mg) : ∃ t, mg "MOST_SKILLS" = some (.int 12 t) := let ⟨_, X, G⟩ := Z.hp; He.int_ok X G (Z.s.fact 46 (f := .int "MOST_SKILLS" 12) rfl)
theorem All.SMALL_LETTERS (Z : All K mg) : ∃ t, mg "SMALL_LETTERS" = some (.str "abcdefghijklmnopqrstuvwxyz" t) := let ⟨_, X, G⟩ := Z.hp; He.str_ok X G (Z.s.fact 47 (f := .str "SMALL_LETTERS" "abcdefghijklmnopqrstuvwxyz") rfl)
theorem All.f_is_word (Z : All K mg) : ∃ fd, FunD K "is_word" "is_word" (defArgs s_is_word) (defBody s_is_word) (defScope s_is_word) [] [] (He.ga K "is_word") fd := Z.s.def_ 0 (d := dG 16 "is_word") rfl
theorem All.f_is_one_of (Z : All K mg) : ∃ fd, FunD K "is_one_of" "is_one_of" (defArgs s_is_one_of) (defBody s_is_one_of) (defScope s_is_one_of) [] [] (He.ga K "is_one_of") fd := Z.s.def_ 1 (d := dG 17 "is_one_of") rfl
theorem All.f_is_ordered (Z : All K mg) : ∃ fd, FunD K "is_ordered" "is_ordered" (defArgs s_is_ordered) (defBody s_is_ordered) (defScope s_is_ordered) [] [] (He.ga K "is_ordered") fd := Z.s.def_ 2 (d := dG 18 "is_ordered") rfl
theorem All.f_are_unlike (Z : All K mg) : ∃ fd, FunD K "are_unlike" "are_unlike" (defArgs s_are_unlike) (defBody s_are_unlike) (defScope s_are_unlike) [] [] (He.ga K "are_unlike") fd := Z.s.def_ 3 (d := dG 19 "are_unlike") rfl
theorem All.f_is_seen (Z : All K mg) : ∃ fd, FunD K "is_seen" "is_seen" (defArgs s_is_seen) (defBody s_is_seen) (defScope s_is_seen) [] [] (He.ga K "is_seen") fd := Z.s.def_ 4 (d := dG 22 "is_seen") rfl
theorem All.f_explains (Z : All K mg) : ∃ fd, FunD K "explains" "explains" (defArgs s_explains) (defBody s_explains) (defScope s_explains) [] [] (He.ga K "explains") fd := Z.s.def_ 5 (d := dG 23 "explains") rfl
theorem All.f_greatest_wants (Z : All K mg) : ∃ fd, FunD K "greatest_wants" "greatest_wants" (defArgs s_greatest_wants) (defBody s_greatest_wants) (defScope s_greatest_wants) [] [] (He.ga K "greatest_wants") fd := Z.s.def_ 6 (d := dG 24 "greatest_wants") rfl
theorem All.f_must (Z : All K mg) : ∃ fd, FunD K "must" "must" (defArgs s_must) (defBody s_must) (defScope s_must) [] [] (He.ga K "must") fd := Z.s.def_ 7 (d := dG 25 "must") rfl
theorem All.f_may (Z : All K mg) : ∃ fd, FunD K "may" "may" (defArgs s_may) (defBody s_may) (defScope s_may) [] [] (He.ga K "may") fd := Z.s.def_ 8 (d := dG 26 "may") rfl
theorem All.f_next_ask (Z : All K mg) : ∃ fd, FunD K "next_ask" "next_ask" (defArgs s_next_ask) (defBody s_next_ask) (defScope s_next_ask) [] [] (He.ga K "next_ask") fd := Z.s.def_ 9 (d := dG 27 "next_ask") rfl
theorem All.f_must_be_names (Z : All K mg) : ∃ fd, FunD K "must_be_names" "must_be_names" (defArgs s_must_be_names) (defBody s_must_be_names) (defScope s_must_be_names) [] [] (He.ga K "must_be_names") fd := Z.s.def_ 10 (d := dG 28 "must_be_names") rfl
theorem All.f_must_be_seen (Z : All K mg) : ∃ fd, FunD K "must_be_seen" "must_be_seen" (defArgs s_must_be_seen) (defBody s_must_be_seen) (defScope s_must_be_seen) [] [] (He.ga K "must_be_seen") fd := Z.s.def_ 11 (d := dG 29 "must_be_seen") rfl
theorem All.f_is_answer (Z : All K mg) : ∃ fd, FunD K "is_answer" "is_answer" (defArgs s_is_answer) (defBody s_is_answer) (defScope s_is_answer) [] [] (He.ga K "is_answer") fd := Z.s.def_ 12 (d := dG 30 "is_answer") rfl
theorem All.f_are_wants_of_all (Z : All K mg) : ∃ fd, FunD K "are_wants_of_all" "are_wants_of_all" (defArgs s_are_wants_of_all) (defBody s_are_wants_of_all) (defScope s_are_wants_of_all) [] [] (He.ga K "are_wants_of_all") fd := Z.s.def_ 13 (d := dG 31 "are_wants_of_all") rfl
theorem All.f_is_explained (Z : All K mg) : ∃ fd, FunD K "is_explained" "is_explained" (defArgs s_is_explained) (defBody s_is_explained) (defScope s_is_explained) [] [] (He.ga K "is_explained") fd := Z.s.def_ 14 (d := dG 32 "is_explained") rfl
theorem All.f_most_wanted (Z : All K mg) : ∃ fd, FunD K "most_wanted" "most_wanted" (defArgs s_most_wanted) (defBody s_most_wanted) (defScope s_most_wanted) [] [] (He.ga K "most_wanted") fd := Z.s.def_ 15 (d := dG 33 "most_wanted") rfl
theorem All.f_law_pool (Z : All K mg) : ∃ fd, FunD K "_law_pool" "_law_pool" (defArgs s_law_pool) (defBody s_law_pool) (defScope s_law_pool) [] [] (He.ga K "_law_pool") fd := Z.s.def_ 16 (d := dG 35 "_law_pool") rfl
theorem All.f_law_take (Z : All K mg) : ∃ fd, FunD K "_law_take" "_law_take" (defArgs s_law_take) (defBody s_law_take) (defScope s_law_take) [] [] (He.ga K "_law_take") fd := Z.s.def_ 17 (d := dG 36 "_law_take") rfl
theorem All.f_law_one (Z : All K mg) : ∃ fd, FunD K "_law_one" "_law_one" (defArgs s_law_one) (defBody s_law_one) (defScope s_law_one) [] [] (He.ga K "_law_one") fd := Z.s.def_ 18 (d := dG 37 "_law_one") rfl
theorem All.f_law_caught (Z : All K mg) : ∃ fd, FunD K "_law_caught" "_law_caught" (defArgs s_law_caught) (defBody s_law_caught) (defScope s_law_caught) [] [] (He.ga K "_law_caught") fd := Z.s.def_ 19 (d := dG 38 "_law_caught") rfl
theorem All.f_law_told_names (Z : All K mg) : ∃ fd, FunD K "_law_told_names" "_law_told_names" (defArgs s_law_told_names) (defBody s_law_told_names) (defScope s_law_told_names) [] [] (He.ga K "_law_told_names") fd := Z.s.def_ 20 (d := dG 39 "_law_told_names") rfl
theorem All.f_law_parts (Z : All K mg) : ∃ fd, FunD K "_law_parts" "_law_parts" (defArgs s_law_parts) (defBody s_law_parts) (defScope s_law_parts) [] [] (He.ga K "_law_parts") fd := Z.s.def_ 21 (d := dG 40 "_law_parts") rfl
theorem All.f_law_answers (Z : All K mg) : ∃ fd, FunD K "_law_answers" "_law_answers" (defArgs s_law_answers) (defBody s_law_answers) (defScope s_law_answers) [] [] (He.ga K "_law_answers") fd := Z.s.def_ 22 (d := dG 41 "_law_answers") rfl
theorem All.f_law_bad_names (Z : All K mg) : ∃ fd, FunD K "_law_bad_names" "_law_bad_names" (defArgs s_law_bad_names) (defBody s_law_bad_names) (defScope s_law_bad_names) [] [] (He.ga K "_law_bad_names") fd := Z.s.def_ 23 (d := dG 42 "_law_bad_names") rfl
theorem All.f_law_bad_seen (Z : All K mg) : ∃ fd, FunD K "_law_bad_seen" "_law_bad_seen" (defArgs s_law_bad_seen) (defBody s_law_bad_seen) (defScope s_law_bad_seen) [] [] (He.ga K "_law_bad_seen") fd := Z.s.def_ 24 (d := dG 43 "_law_bad_seen") rfl
theorem All.f_law_all_refused (Z : All K mg) : ∃ fd, FunD K "_law_all_refused" "_law_all_refused" (defArgs s_law_all_refused) (defBody s_law_all_refused) (defScope s_law_all_refused) [] [] (He.ga K "_law_all_refused") fd := Z.s.def_ 25 (d := dG 44 "_law_all_refused") rfl
theorem All.f_law (Z : All K mg) : ∃ fd, FunD K "law" "law" (defArgs s_law) (defBody s_law) (defScope s_law) [] [] (He.ga K "law") fd := Z.s.def_ 26 (d := dG 45 "law") rfl
theorem All.f_NoBook_init (Z : All K mg) : ∃ fd, FunD K "__init__" "NoBook.__init__" (defArgs s_NoBook_init) (defBody s_NoBook_init) (defScope s_NoBook_init) [] [] (He.fAd K ("NoBook", some "__init__")) fd := Z.s.def_ 27 (d := dM "NoBook" 2 0 "__init__" "NoBook.__init__") rfl
theorem All.g_NoBook (Z : All K mg) : mg "NoBook" = some (.ref (He.ga K "NoBook")) := let ⟨_, X, G⟩ := Z.hp; He.glo_ok X G (Z.s.fact 48 (f := .glo "NoBook") rfl)
theorem All.n_NoBook (Z : All K mg) : NoAttr K (He.ga K "NoBook") "part" := He.noat_ok (Z.s.fact 49 (f := .noat "NoBook" "part") rfl)
theorem All.x_NoBook_NoBook (Z : All K mg) : PySem.W.exmOne K (.ref (He.ga K "NoBook")) (.ref (He.ga K "NoBook")) = some true := He.exm_ok (Z.s.fact 70 (f := .exm "NoBook" "NoBook" true) rfl)
theorem All.x_NoBook_NoSkill (Z : All K mg) : PySem.W.exmOne K (.ref (He.ga K "NoBook")) (.ref (He.ga K "NoSkill")) = some false := He.exm_ok (Z.s.fact 71 (f := .exm "NoBook" "NoSkill" false) rfl)
theorem All.x_NoBook_NoBuild (Z : All K mg) : PySem.W.exmOne K (.ref (He.ga K "NoBook")) (.ref (He.ga K "NoBuild")) = some false := He.exm_ok (Z.s.fact 72 (f := .exm "NoBook" "NoBuild" false) rfl)
theorem All.x_NoBook_NoStep (Z : All K mg) : PySem.W.exmOne K (.ref (He.ga K "NoBook")) (.ref (He.ga K "NoStep")) = some false := He.exm_ok (Z.s.fact 73 (f := .exm "NoBook" "NoStep" false) rfl)
theorem All.x_NoBook_NoPlain (Z : All K mg) : PySem.W.exmOne K (.ref (He.ga K "NoBook")) (.ref (He.ga K "NoPlain")) = some false := He.exm_ok (Z.s.fact 74 (f := .exm "NoBook" "NoPlain" false) rfl)
theorem All.x_NoBook_NoNumber (Z : All K mg) : PySem.W.exmOne K (.ref (He.ga K "NoBook")) (.ref (He.ga K "NoNumber")) = some false := He.exm_ok (Z.s.fact 75 (f := .exm "NoBook" "NoNumber" false) rfl)
theorem All.x_NoBook_NoWorth (Z : All K mg) : PySem.W.exmOne K (.ref (He.ga K "NoBook")) (.ref (He.ga K "NoWorth")) = some false := He.exm_ok (Z.s.fact 76 (f := .exm "NoBook" "NoWorth" false) rfl)
theorem All.x_NoBook_NoSeen (Z : All K mg) : PySem.W.exmOne K (.ref (He.ga K "NoBook")) (.ref (He.ga K "NoSeen")) = some false := He.exm_ok (Z.s.fact 77 (f := .exm "NoBook" "NoSeen" false) rfl)
theorem All.x_NoBook_NoKind (Z : All K mg) : PySem.W.exmOne K (.ref (He.ga K "NoBook")) (.ref (He.ga K "NoKind")) = some false := He.exm_ok (Z.s.fact 78 (f := .exm "NoBook" "NoKind" false) rfl)
theorem All.x_NoBook_NothingBack (Z : All K mg) : PySem.W.exmOne K (.ref (He.ga K "NoBook")) (.ref (He.ga K "NothingBack")) = some false := He.exm_ok (Z.s.fact 79 (f := .exm "NoBook" "NothingBack" false) rfl)
theorem All.x_NoBook_NoNote (Z : All K mg) : PySem.W.exmOne K (.ref (He.ga K "NoBook")) (.ref (He.ga K "NoNote")) = some false := He.exm_ok (Z.s.fact 80 (f := .exm "NoBook" "NoNote" false) rfl)
theorem All.f_NoSkill_init (Z : All K mg) : ∃ fd, FunD K "__init__" "NoSkill.__init__" (defArgs s_NoSkill_init) (defBody s_NoSkill_init) (defScope s_NoSkill_init) [] [] (He.fAd K ("NoSkill", some "__init__")) fd := Z.s.def_ 28 (d := dM "NoSkill" 3 0 "__init__" "NoSkill.__init__") rfl
theorem All.g_NoSkill (Z : All K mg) : mg "NoSkill" = some (.ref (He.ga K "NoSkill")) := let ⟨_, X, G⟩ := Z.hp; He.glo_ok X G (Z.s.fact 50 (f := .glo "NoSkill") rfl)
theorem All.n_NoSkill (Z : All K mg) : NoAttr K (He.ga K "NoSkill") "skill" := He.noat_ok (Z.s.fact 51 (f := .noat "NoSkill" "skill") rfl)
theorem All.x_NoSkill_NoBook (Z : All K mg) : PySem.W.exmOne K (.ref (He.ga K "NoSkill")) (.ref (He.ga K "NoBook")) = some false := He.exm_ok (Z.s.fact 81 (f := .exm "NoSkill" "NoBook" false) rfl)
theorem All.x_NoSkill_NoSkill (Z : All K mg) : PySem.W.exmOne K (.ref (He.ga K "NoSkill")) (.ref (He.ga K "NoSkill")) = some true := He.exm_ok (Z.s.fact 82 (f := .exm "NoSkill" "NoSkill" true) rfl)
theorem All.x_NoSkill_NoBuild (Z : All K mg) : PySem.W.exmOne K (.ref (He.ga K "NoSkill")) (.ref (He.ga K "NoBuild")) = some false := He.exm_ok (Z.s.fact 83 (f := .exm "NoSkill" "NoBuild" false) rfl)
theorem All.x_NoSkill_NoStep (Z : All K mg) : PySem.W.exmOne K (.ref (He.ga K "NoSkill")) (.ref (He.ga K "NoStep")) = some false := He.exm_ok (Z.s.fact 84 (f := .exm "NoSkill" "NoStep" false) rfl)
theorem All.x_NoSkill_NoPlain (Z : All K mg) : PySem.W.exmOne K (.ref (He.ga K "NoSkill")) (.ref (He.ga K "NoPlain")) = some false := He.exm_ok (Z.s.fact 85 (f := .exm "NoSkill" "NoPlain" false) rfl)
theorem All.x_NoSkill_NoNumber (Z : All K mg) : PySem.W.exmOne K (.ref (He.ga K "NoSkill")) (.ref (He.ga K "NoNumber")) = some false := He.exm_ok (Z.s.fact 86 (f := .exm "NoSkill" "NoNumber" false) rfl)
theorem All.x_NoSkill_NoWorth (Z : All K mg) : PySem.W.exmOne K (.ref (He.ga K "NoSkill")) (.ref (He.ga K "NoWorth")) = some false := He.exm_ok (Z.s.fact 87 (f := .exm "NoSkill" "NoWorth" false) rfl)
theorem All.x_NoSkill_NoSeen (Z : All K mg) : PySem.W.exmOne K (.ref (He.ga K "NoSkill")) (.ref (He.ga K "NoSeen")) = some false := He.exm_ok (Z.s.fact 88 (f := .exm "NoSkill" "NoSeen" false) rfl)
theorem All.x_NoSkill_NoKind (Z : All K mg) : PySem.W.exmOne K (.ref (He.ga K "NoSkill")) (.ref (He.ga K "NoKind")) = some false := He.exm_ok (Z.s.fact 89 (f := .exm "NoSkill" "NoKind" false) rfl)
theorem All.x_NoSkill_NothingBack (Z : All K mg) : PySem.W.exmOne K (.ref (He.ga K "NoSkill")) (.ref (He.ga K "NothingBack")) = some false := He.exm_ok (Z.s.fact 90 (f := .exm "NoSkill" "NothingBack" false) rfl)
theorem All.x_NoSkill_NoNote (Z : All K mg) : PySem.W.exmOne K (.ref (He.ga K "NoSkill")) (.ref (He.ga K "NoNote")) = some false := He.exm_ok (Z.s.fact 91 (f := .exm "NoSkill" "NoNote" false) rfl)
theorem All.f_NoBuild_init (Z : All K mg) : ∃ fd, FunD K "__init__" "NoBuild.__init__" (defArgs s_NoBuild_init) (defBody s_NoBuild_init) (defScope s_NoBuild_init) [] [] (He.fAd K ("NoBuild", some "__init__")) fd := Z.s.def_ 29 (d := dM "NoBuild" 4 0 "__init__" "NoBuild.__init__") rfl
theorem All.g_NoBuild (Z : All K mg) : mg "NoBuild" = some (.ref (He.ga K "NoBuild")) := let ⟨_, X, G⟩ := Z.hp; He.glo_ok X G (Z.s.fact 52 (f := .glo "NoBuild") rfl)
theorem All.n_NoBuild (Z : All K mg) : NoAttr K (He.ga K "NoBuild") "build" := He.noat_ok (Z.s.fact 53 (f := .noat "NoBuild" "build") rfl)
theorem All.x_NoBuild_NoBook (Z : All K mg) : PySem.W.exmOne K (.ref (He.ga K "NoBuild")) (.ref (He.ga K "NoBook")) = some false := He.exm_ok (Z.s.fact 92 (f := .exm "NoBuild" "NoBook" false) rfl)
theorem All.x_NoBuild_NoSkill (Z : All K mg) : PySem.W.exmOne K (.ref (He.ga K "NoBuild")) (.ref (He.ga K "NoSkill")) = some false := He.exm_ok (Z.s.fact 93 (f := .exm "NoBuild" "NoSkill" false) rfl)
theorem All.x_NoBuild_NoBuild (Z : All K mg) : PySem.W.exmOne K (.ref (He.ga K "NoBuild")) (.ref (He.ga K "NoBuild")) = some true := He.exm_ok (Z.s.fact 94 (f := .exm "NoBuild" "NoBuild" true) rfl)
theorem All.x_NoBuild_NoStep (Z : All K mg) : PySem.W.exmOne K (.ref (He.ga K "NoBuild")) (.ref (He.ga K "NoStep")) = some false := He.exm_ok (Z.s.fact 95 (f := .exm "NoBuild" "NoStep" false) rfl)
theorem All.x_NoBuild_NoPlain (Z : All K mg) : PySem.W.exmOne K (.ref (He.ga K "NoBuild")) (.ref (He.ga K "NoPlain")) = some false := He.exm_ok (Z.s.fact 96 (f := .exm "NoBuild" "NoPlain" false) rfl)
theorem All.x_NoBuild_NoNumber (Z : All K mg) : PySem.W.exmOne K (.ref (He.ga K "NoBuild")) (.ref (He.ga K "NoNumber")) = some false := He.exm_ok (Z.s.fact 97 (f := .exm "NoBuild" "NoNumber" false) rfl)
theorem All.x_NoBuild_NoWorth (Z : All K mg) : PySem.W.exmOne K (.ref (He.ga K "NoBuild")) (.ref (He.ga K "NoWorth")) = some false := He.exm_ok (Z.s.fact 98 (f := .exm "NoBuild" "NoWorth" false) rfl)
theorem All.x_NoBuild_NoSeen (Z : All K mg) : PySem.W.exmOne K (.ref (He.ga K "NoBuild")) (.ref (He.ga K "NoSeen")) = some false := He.exm_ok (Z.s.fact 99 (f := .exm "NoBuild" "NoSeen" false) rfl)
theorem All.x_NoBuild_NoKind (Z : All K mg) : PySem.W.exmOne K (.ref (He.ga K "NoBuild")) (.ref (He.ga K "NoKind")) = some false := He.exm_ok (Z.s.fact 100 (f := .exm "NoBuild" "NoKind" false) rfl)
theorem All.x_NoBuild_NothingBack (Z : All K mg) : PySem.W.exmOne K (.ref (He.ga K "NoBuild")) (.ref (He.ga K "NothingBack")) = some false := He.exm_ok (Z.s.fact 101 (f := .exm "NoBuild" "NothingBack" false) rfl)
theorem All.x_NoBuild_NoNote (Z : All K mg) : PySem.W.exmOne K (.ref (He.ga K "NoBuild")) (.ref (He.ga K "NoNote")) = some false := He.exm_ok (Z.s.fact 102 (f := .exm "NoBuild" "NoNote" false) rfl)
theorem All.f_NoStep_init (Z : All K mg) : ∃ fd, FunD K "__init__" "NoStep.__init__" (defArgs s_NoStep_init) (defBody s_NoStep_init) (defScope s_NoStep_init) [] [] (He.fAd K ("NoStep", some "__init__")) fd := Z.s.def_ 30 (d := dM "NoStep" 5 0 "__init__" "NoStep.__init__") rfl
theorem All.g_NoStep (Z : All K mg) : mg "NoStep" = some (.ref (He.ga K "NoStep")) := let ⟨_, X, G⟩ := Z.hp; He.glo_ok X G (Z.s.fact 54 (f := .glo "NoStep") rfl)
theorem All.n_NoStep (Z : All K mg) : NoAttr K (He.ga K "NoStep") "step" := He.noat_ok (Z.s.fact 55 (f := .noat "NoStep" "step") rfl)
theorem All.x_NoStep_NoBook (Z : All K mg) : PySem.W.exmOne K (.ref (He.ga K "NoStep")) (.ref (He.ga K "NoBook")) = some false := He.exm_ok (Z.s.fact 103 (f := .exm "NoStep" "NoBook" false) rfl)
theorem All.x_NoStep_NoSkill (Z : All K mg) : PySem.W.exmOne K (.ref (He.ga K "NoStep")) (.ref (He.ga K "NoSkill")) = some false := He.exm_ok (Z.s.fact 104 (f := .exm "NoStep" "NoSkill" false) rfl)
theorem All.x_NoStep_NoBuild (Z : All K mg) : PySem.W.exmOne K (.ref (He.ga K "NoStep")) (.ref (He.ga K "NoBuild")) = some false := He.exm_ok (Z.s.fact 105 (f := .exm "NoStep" "NoBuild" false) rfl)
theorem All.x_NoStep_NoStep (Z : All K mg) : PySem.W.exmOne K (.ref (He.ga K "NoStep")) (.ref (He.ga K "NoStep")) = some true := He.exm_ok (Z.s.fact 106 (f := .exm "NoStep" "NoStep" true) rfl)
theorem All.x_NoStep_NoPlain (Z : All K mg) : PySem.W.exmOne K (.ref (He.ga K "NoStep")) (.ref (He.ga K "NoPlain")) = some false := He.exm_ok (Z.s.fact 107 (f := .exm "NoStep" "NoPlain" false) rfl)
theorem All.x_NoStep_NoNumber (Z : All K mg) : PySem.W.exmOne K (.ref (He.ga K "NoStep")) (.ref (He.ga K "NoNumber")) = some false := He.exm_ok (Z.s.fact 108 (f := .exm "NoStep" "NoNumber" false) rfl)
theorem All.x_NoStep_NoWorth (Z : All K mg) : PySem.W.exmOne K (.ref (He.ga K "NoStep")) (.ref (He.ga K "NoWorth")) = some false := He.exm_ok (Z.s.fact 109 (f := .exm "NoStep" "NoWorth" false) rfl)
theorem All.x_NoStep_NoSeen (Z : All K mg) : PySem.W.exmOne K (.ref (He.ga K "NoStep")) (.ref (He.ga K "NoSeen")) = some false := He.exm_ok (Z.s.fact 110 (f := .exm "NoStep" "NoSeen" false) rfl)
theorem All.x_NoStep_NoKind (Z : All K mg) : PySem.W.exmOne K (.ref (He.ga K "NoStep")) (.ref (He.ga K "NoKind")) = some false := He.exm_ok (Z.s.fact 111 (f := .exm "NoStep" "NoKind" false) rfl)
theorem All.x_NoStep_NothingBack (Z : All K mg) : PySem.W.exmOne K (.ref (He.ga K "NoStep")) (.ref (He.ga K "NothingBack")) = some false := He.exm_ok (Z.s.fact 112 (f := .exm "NoStep" "NothingBack" false) rfl)
theorem All.x_NoStep_NoNote (Z : All K mg) : PySem.W.exmOne K (.ref (He.ga K "NoStep")) (.ref (He.ga K "NoNote")) = some false := He.exm_ok (Z.s.fact 113 (f := .exm "NoStep" "NoNote" false) rfl)
theorem All.f_NoPlain_init (Z : All K mg) : ∃ fd, FunD K "__init__" "NoPlain.__init__" (defArgs s_NoPlain_init) (defBody s_NoPlain_init) (defScope s_NoPlain_init) [] [] (He.fAd K ("NoPlain", some "__init__")) fd := Z.s.def_ 31 (d := dM "NoPlain" 6 0 "__init__" "NoPlain.__init__") rfl
theorem All.g_NoPlain (Z : All K mg) : mg "NoPlain" = some (.ref (He.ga K "NoPlain")) := let ⟨_, X, G⟩ := Z.hp; He.glo_ok X G (Z.s.fact 56 (f := .glo "NoPlain") rfl)
theorem All.n_NoPlain (Z : All K mg) : NoAttr K (He.ga K "NoPlain") "book" := He.noat_ok (Z.s.fact 57 (f := .noat "NoPlain" "book") rfl)
theorem All.x_NoPlain_NoBook (Z : All K mg) : PySem.W.exmOne K (.ref (He.ga K "NoPlain")) (.ref (He.ga K "NoBook")) = some false := He.exm_ok (Z.s.fact 114 (f := .exm "NoPlain" "NoBook" false) rfl)
theorem All.x_NoPlain_NoSkill (Z : All K mg) : PySem.W.exmOne K (.ref (He.ga K "NoPlain")) (.ref (He.ga K "NoSkill")) = some false := He.exm_ok (Z.s.fact 115 (f := .exm "NoPlain" "NoSkill" false) rfl)
theorem All.x_NoPlain_NoBuild (Z : All K mg) : PySem.W.exmOne K (.ref (He.ga K "NoPlain")) (.ref (He.ga K "NoBuild")) = some false := He.exm_ok (Z.s.fact 116 (f := .exm "NoPlain" "NoBuild" false) rfl)
theorem All.x_NoPlain_NoStep (Z : All K mg) : PySem.W.exmOne K (.ref (He.ga K "NoPlain")) (.ref (He.ga K "NoStep")) = some false := He.exm_ok (Z.s.fact 117 (f := .exm "NoPlain" "NoStep" false) rfl)
theorem All.x_NoPlain_NoPlain (Z : All K mg) : PySem.W.exmOne K (.ref (He.ga K "NoPlain")) (.ref (He.ga K "NoPlain")) = some true := He.exm_ok (Z.s.fact 118 (f := .exm "NoPlain" "NoPlain" true) rfl)
theorem All.x_NoPlain_NoNumber (Z : All K mg) : PySem.W.exmOne K (.ref (He.ga K "NoPlain")) (.ref (He.ga K "NoNumber")) = some false := He.exm_ok (Z.s.fact 119 (f := .exm "NoPlain" "NoNumber" false) rfl)
theorem All.x_NoPlain_NoWorth (Z : All K mg) : PySem.W.exmOne K (.ref (He.ga K "NoPlain")) (.ref (He.ga K "NoWorth")) = some false := He.exm_ok (Z.s.fact 120 (f := .exm "NoPlain" "NoWorth" false) rfl)
theorem All.x_NoPlain_NoSeen (Z : All K mg) : PySem.W.exmOne K (.ref (He.ga K "NoPlain")) (.ref (He.ga K "NoSeen")) = some false := He.exm_ok (Z.s.fact 121 (f := .exm "NoPlain" "NoSeen" false) rfl)
theorem All.x_NoPlain_NoKind (Z : All K mg) : PySem.W.exmOne K (.ref (He.ga K "NoPlain")) (.ref (He.ga K "NoKind")) = some false := He.exm_ok (Z.s.fact 122 (f := .exm "NoPlain" "NoKind" false) rfl)
theorem All.x_NoPlain_NothingBack (Z : All K mg) : PySem.W.exmOne K (.ref (He.ga K "NoPlain")) (.ref (He.ga K "NothingBack")) = some false := He.exm_ok (Z.s.fact 123 (f := .exm "NoPlain" "NothingBack" false) rfl)
theorem All.x_NoPlain_NoNote (Z : All K mg) : PySem.W.exmOne K (.ref (He.ga K "NoPlain")) (.ref (He.ga K "NoNote")) = some false := He.exm_ok (Z.s.fact 124 (f := .exm "NoPlain" "NoNote" false) rfl)
theorem All.f_NoNumber_init (Z : All K mg) : ∃ fd, FunD K "__init__" "NoNumber.__init__" (defArgs s_NoNumber_init) (defBody s_NoNumber_init) (defScope s_NoNumber_init) [] [] (He.fAd K ("NoNumber", some "__init__")) fd := Z.s.def_ 32 (d := dM "NoNumber" 7 0 "__init__" "NoNumber.__init__") rfl
theorem All.g_NoNumber (Z : All K mg) : mg "NoNumber" = some (.ref (He.ga K "NoNumber")) := let ⟨_, X, G⟩ := Z.hp; He.glo_ok X G (Z.s.fact 58 (f := .glo "NoNumber") rfl)
theorem All.n_NoNumber (Z : All K mg) : NoAttr K (He.ga K "NoNumber") "value" := He.noat_ok (Z.s.fact 59 (f := .noat "NoNumber" "value") rfl)
theorem All.x_NoNumber_NoBook (Z : All K mg) : PySem.W.exmOne K (.ref (He.ga K "NoNumber")) (.ref (He.ga K "NoBook")) = some false := He.exm_ok (Z.s.fact 125 (f := .exm "NoNumber" "NoBook" false) rfl)
theorem All.x_NoNumber_NoSkill (Z : All K mg) : PySem.W.exmOne K (.ref (He.ga K "NoNumber")) (.ref (He.ga K "NoSkill")) = some false := He.exm_ok (Z.s.fact 126 (f := .exm "NoNumber" "NoSkill" false) rfl)
theorem All.x_NoNumber_NoBuild (Z : All K mg) : PySem.W.exmOne K (.ref (He.ga K "NoNumber")) (.ref (He.ga K "NoBuild")) = some false := He.exm_ok (Z.s.fact 127 (f := .exm "NoNumber" "NoBuild" false) rfl)
theorem All.x_NoNumber_NoStep (Z : All K mg) : PySem.W.exmOne K (.ref (He.ga K "NoNumber")) (.ref (He.ga K "NoStep")) = some false := He.exm_ok (Z.s.fact 128 (f := .exm "NoNumber" "NoStep" false) rfl)
theorem All.x_NoNumber_NoPlain (Z : All K mg) : PySem.W.exmOne K (.ref (He.ga K "NoNumber")) (.ref (He.ga K "NoPlain")) = some false := He.exm_ok (Z.s.fact 129 (f := .exm "NoNumber" "NoPlain" false) rfl)
theorem All.x_NoNumber_NoNumber (Z : All K mg) : PySem.W.exmOne K (.ref (He.ga K "NoNumber")) (.ref (He.ga K "NoNumber")) = some true := He.exm_ok (Z.s.fact 130 (f := .exm "NoNumber" "NoNumber" true) rfl)
theorem All.x_NoNumber_NoWorth (Z : All K mg) : PySem.W.exmOne K (.ref (He.ga K "NoNumber")) (.ref (He.ga K "NoWorth")) = some false := He.exm_ok (Z.s.fact 131 (f := .exm "NoNumber" "NoWorth" false) rfl)
theorem All.x_NoNumber_NoSeen (Z : All K mg) : PySem.W.exmOne K (.ref (He.ga K "NoNumber")) (.ref (He.ga K "NoSeen")) = some false := He.exm_ok (Z.s.fact 132 (f := .exm "NoNumber" "NoSeen" false) rfl)
theorem All.x_NoNumber_NoKind (Z : All K mg) : PySem.W.exmOne K (.ref (He.ga K "NoNumber")) (.ref (He.ga K "NoKind")) = some false := He.exm_ok (Z.s.fact 133 (f := .exm "NoNumber" "NoKind" false) rfl)
theorem All.x_NoNumber_NothingBack (Z : All K mg) : PySem.W.exmOne K (.ref (He.ga K "NoNumber")) (.ref (He.ga K "NothingBack")) = some false := He.exm_ok (Z.s.fact 134 (f := .exm "NoNumber" "NothingBack" false) rfl)
theorem All.x_NoNumber_NoNote (Z : All K mg) : PySem.W.exmOne K (.ref (He.ga K "NoNumber")) (.ref (He.ga K "NoNote")) = some false := He.exm_ok (Z.s.fact 135 (f := .exm "NoNumber" "NoNote" false) rfl)
theorem All.f_NoWorth_init (Z : All K mg) : ∃ fd, FunD K "__init__" "NoWorth.__init__" (defArgs s_NoWorth_init) (defBody s_NoWorth_init) (defScope s_NoWorth_init) [] [] (He.fAd K ("NoWorth", some "__init__")) fd := Z.s.def_ 33 (d := dM "NoWorth" 8 0 "__init__" "NoWorth.__init__") rfl
theorem All.g_NoWorth (Z : All K mg) : mg "NoWorth" = some (.ref (He.ga K "NoWorth")) := let ⟨_, X, G⟩ := Z.hp; He.glo_ok X G (Z.s.fact 60 (f := .glo "NoWorth") rfl)
theorem All.n_NoWorth (Z : All K mg) : NoAttr K (He.ga K "NoWorth") "worths" := He.noat_ok (Z.s.fact 61 (f := .noat "NoWorth" "worths") rfl)
theorem All.x_NoWorth_NoBook (Z : All K mg) : PySem.W.exmOne K (.ref (He.ga K "NoWorth")) (.ref (He.ga K "NoBook")) = some false := He.exm_ok (Z.s.fact 136 (f := .exm "NoWorth" "NoBook" false) rfl)
theorem All.x_NoWorth_NoSkill (Z : All K mg) : PySem.W.exmOne K (.ref (He.ga K "NoWorth")) (.ref (He.ga K "NoSkill")) = some false := He.exm_ok (Z.s.fact 137 (f := .exm "NoWorth" "NoSkill" false) rfl)
theorem All.x_NoWorth_NoBuild (Z : All K mg) : PySem.W.exmOne K (.ref (He.ga K "NoWorth")) (.ref (He.ga K "NoBuild")) = some false := He.exm_ok (Z.s.fact 138 (f := .exm "NoWorth" "NoBuild" false) rfl)
theorem All.x_NoWorth_NoStep (Z : All K mg) : PySem.W.exmOne K (.ref (He.ga K "NoWorth")) (.ref (He.ga K "NoStep")) = some false := He.exm_ok (Z.s.fact 139 (f := .exm "NoWorth" "NoStep" false) rfl)
theorem All.x_NoWorth_NoPlain (Z : All K mg) : PySem.W.exmOne K (.ref (He.ga K "NoWorth")) (.ref (He.ga K "NoPlain")) = some false := He.exm_ok (Z.s.fact 140 (f := .exm "NoWorth" "NoPlain" false) rfl)
theorem All.x_NoWorth_NoNumber (Z : All K mg) : PySem.W.exmOne K (.ref (He.ga K "NoWorth")) (.ref (He.ga K "NoNumber")) = some false := He.exm_ok (Z.s.fact 141 (f := .exm "NoWorth" "NoNumber" false) rfl)
theorem All.x_NoWorth_NoWorth (Z : All K mg) : PySem.W.exmOne K (.ref (He.ga K "NoWorth")) (.ref (He.ga K "NoWorth")) = some true := He.exm_ok (Z.s.fact 142 (f := .exm "NoWorth" "NoWorth" true) rfl)
theorem All.x_NoWorth_NoSeen (Z : All K mg) : PySem.W.exmOne K (.ref (He.ga K "NoWorth")) (.ref (He.ga K "NoSeen")) = some false := He.exm_ok (Z.s.fact 143 (f := .exm "NoWorth" "NoSeen" false) rfl)
theorem All.x_NoWorth_NoKind (Z : All K mg) : PySem.W.exmOne K (.ref (He.ga K "NoWorth")) (.ref (He.ga K "NoKind")) = some false := He.exm_ok (Z.s.fact 144 (f := .exm "NoWorth" "NoKind" false) rfl)
theorem All.x_NoWorth_NothingBack (Z : All K mg) : PySem.W.exmOne K (.ref (He.ga K "NoWorth")) (.ref (He.ga K "NothingBack")) = some false := He.exm_ok (Z.s.fact 145 (f := .exm "NoWorth" "NothingBack" false) rfl)
theorem All.x_NoWorth_NoNote (Z : All K mg) : PySem.W.exmOne K (.ref (He.ga K "NoWorth")) (.ref (He.ga K "NoNote")) = some false := He.exm_ok (Z.s.fact 146 (f := .exm "NoWorth" "NoNote" false) rfl)
theorem All.f_NoSeen_init (Z : All K mg) : ∃ fd, FunD K "__init__" "NoSeen.__init__" (defArgs s_NoSeen_init) (defBody s_NoSeen_init) (defScope s_NoSeen_init) [] [] (He.fAd K ("NoSeen", some "__init__")) fd := Z.s.def_ 34 (d := dM "NoSeen" 9 0 "__init__" "NoSeen.__init__") rfl
theorem All.g_NoSeen (Z : All K mg) : mg "NoSeen" = some (.ref (He.ga K "NoSeen")) := let ⟨_, X, G⟩ := Z.hp; He.glo_ok X G (Z.s.fact 62 (f := .glo "NoSeen") rfl)
theorem All.n_NoSeen (Z : All K mg) : NoAttr K (He.ga K "NoSeen") "seen" := He.noat_ok (Z.s.fact 63 (f := .noat "NoSeen" "seen") rfl)
theorem All.x_NoSeen_NoBook (Z : All K mg) : PySem.W.exmOne K (.ref (He.ga K "NoSeen")) (.ref (He.ga K "NoBook")) = some false := He.exm_ok (Z.s.fact 147 (f := .exm "NoSeen" "NoBook" false) rfl)
theorem All.x_NoSeen_NoSkill (Z : All K mg) : PySem.W.exmOne K (.ref (He.ga K "NoSeen")) (.ref (He.ga K "NoSkill")) = some false := He.exm_ok (Z.s.fact 148 (f := .exm "NoSeen" "NoSkill" false) rfl)
theorem All.x_NoSeen_NoBuild (Z : All K mg) : PySem.W.exmOne K (.ref (He.ga K "NoSeen")) (.ref (He.ga K "NoBuild")) = some false := He.exm_ok (Z.s.fact 149 (f := .exm "NoSeen" "NoBuild" false) rfl)
theorem All.x_NoSeen_NoStep (Z : All K mg) : PySem.W.exmOne K (.ref (He.ga K "NoSeen")) (.ref (He.ga K "NoStep")) = some false := He.exm_ok (Z.s.fact 150 (f := .exm "NoSeen" "NoStep" false) rfl)
theorem All.x_NoSeen_NoPlain (Z : All K mg) : PySem.W.exmOne K (.ref (He.ga K "NoSeen")) (.ref (He.ga K "NoPlain")) = some false := He.exm_ok (Z.s.fact 151 (f := .exm "NoSeen" "NoPlain" false) rfl)
theorem All.x_NoSeen_NoNumber (Z : All K mg) : PySem.W.exmOne K (.ref (He.ga K "NoSeen")) (.ref (He.ga K "NoNumber")) = some false := He.exm_ok (Z.s.fact 152 (f := .exm "NoSeen" "NoNumber" false) rfl)
theorem All.x_NoSeen_NoWorth (Z : All K mg) : PySem.W.exmOne K (.ref (He.ga K "NoSeen")) (.ref (He.ga K "NoWorth")) = some false := He.exm_ok (Z.s.fact 153 (f := .exm "NoSeen" "NoWorth" false) rfl)
theorem All.x_NoSeen_NoSeen (Z : All K mg) : PySem.W.exmOne K (.ref (He.ga K "NoSeen")) (.ref (He.ga K "NoSeen")) = some true := He.exm_ok (Z.s.fact 154 (f := .exm "NoSeen" "NoSeen" true) rfl)
theorem All.x_NoSeen_NoKind (Z : All K mg) : PySem.W.exmOne K (.ref (He.ga K "NoSeen")) (.ref (He.ga K "NoKind")) = some false := He.exm_ok (Z.s.fact 155 (f := .exm "NoSeen" "NoKind" false) rfl)
theorem All.x_NoSeen_NothingBack (Z : All K mg) : PySem.W.exmOne K (.ref (He.ga K "NoSeen")) (.ref (He.ga K "NothingBack")) = some false := He.exm_ok (Z.s.fact 156 (f := .exm "NoSeen" "NothingBack" false) rfl)
theorem All.x_NoSeen_NoNote (Z : All K mg) : PySem.W.exmOne K (.ref (He.ga K "NoSeen")) (.ref (He.ga K "NoNote")) = some false := He.exm_ok (Z.s.fact 157 (f := .exm "NoSeen" "NoNote" false) rfl)
theorem All.f_NoKind_init (Z : All K mg) : ∃ fd, FunD K "__init__" "NoKind.__init__" (defArgs s_NoKind_init) (defBody s_NoKind_init) (defScope s_NoKind_init) [] [] (He.fAd K ("NoKind", some "__init__")) fd := Z.s.def_ 35 (d := dM "NoKind" 10 0 "__init__" "NoKind.__init__") rfl
theorem All.g_NoKind (Z : All K mg) : mg "NoKind" = some (.ref (He.ga K "NoKind")) := let ⟨_, X, G⟩ := Z.hp; He.glo_ok X G (Z.s.fact 64 (f := .glo "NoKind") rfl)
theorem All.n_NoKind (Z : All K mg) : NoAttr K (He.ga K "NoKind") "kind" := He.noat_ok (Z.s.fact 65 (f := .noat "NoKind" "kind") rfl)
theorem All.x_NoKind_NoBook (Z : All K mg) : PySem.W.exmOne K (.ref (He.ga K "NoKind")) (.ref (He.ga K "NoBook")) = some false := He.exm_ok (Z.s.fact 158 (f := .exm "NoKind" "NoBook" false) rfl)
theorem All.x_NoKind_NoSkill (Z : All K mg) : PySem.W.exmOne K (.ref (He.ga K "NoKind")) (.ref (He.ga K "NoSkill")) = some false := He.exm_ok (Z.s.fact 159 (f := .exm "NoKind" "NoSkill" false) rfl)
theorem All.x_NoKind_NoBuild (Z : All K mg) : PySem.W.exmOne K (.ref (He.ga K "NoKind")) (.ref (He.ga K "NoBuild")) = some false := He.exm_ok (Z.s.fact 160 (f := .exm "NoKind" "NoBuild" false) rfl)
theorem All.x_NoKind_NoStep (Z : All K mg) : PySem.W.exmOne K (.ref (He.ga K "NoKind")) (.ref (He.ga K "NoStep")) = some false := He.exm_ok (Z.s.fact 161 (f := .exm "NoKind" "NoStep" false) rfl)
theorem All.x_NoKind_NoPlain (Z : All K mg) : PySem.W.exmOne K (.ref (He.ga K "NoKind")) (.ref (He.ga K "NoPlain")) = some false := He.exm_ok (Z.s.fact 162 (f := .exm "NoKind" "NoPlain" false) rfl)
theorem All.x_NoKind_NoNumber (Z : All K mg) : PySem.W.exmOne K (.ref (He.ga K "NoKind")) (.ref (He.ga K "NoNumber")) = some false := He.exm_ok (Z.s.fact 163 (f := .exm "NoKind" "NoNumber" false) rfl)
theorem All.x_NoKind_NoWorth (Z : All K mg) : PySem.W.exmOne K (.ref (He.ga K "NoKind")) (.ref (He.ga K "NoWorth")) = some false := He.exm_ok (Z.s.fact 164 (f := .exm "NoKind" "NoWorth" false) rfl)
theorem All.x_NoKind_NoSeen (Z : All K mg) : PySem.W.exmOne K (.ref (He.ga K "NoKind")) (.ref (He.ga K "NoSeen")) = some false := He.exm_ok (Z.s.fact 165 (f := .exm "NoKind" "NoSeen" false) rfl)
theorem All.x_NoKind_NoKind (Z : All K mg) : PySem.W.exmOne K (.ref (He.ga K "NoKind")) (.ref (He.ga K "NoKind")) = some true := He.exm_ok (Z.s.fact 166 (f := .exm "NoKind" "NoKind" true) rfl)
theorem All.x_NoKind_NothingBack (Z : All K mg) : PySem.W.exmOne K (.ref (He.ga K "NoKind")) (.ref (He.ga K "NothingBack")) = some false := He.exm_ok (Z.s.fact 167 (f := .exm "NoKind" "NothingBack" false) rfl)
theorem All.x_NoKind_NoNote (Z : All K mg) : PySem.W.exmOne K (.ref (He.ga K "NoKind")) (.ref (He.ga K "NoNote")) = some false := He.exm_ok (Z.s.fact 168 (f := .exm "NoKind" "NoNote" false) rfl)
theorem All.f_NothingBack_init (Z : All K mg) : ∃ fd, FunD K "__init__" "NothingBack.__init__" (defArgs s_NothingBack_init) (defBody s_NothingBack_init) (defScope s_NothingBack_init) [] [] (He.fAd K ("NothingBack", some "__init__")) fd := Z.s.def_ 36 (d := dM "NothingBack" 11 0 "__init__" "NothingBack.__init__") rfl
theorem All.g_NothingBack (Z : All K mg) : mg "NothingBack" = some (.ref (He.ga K "NothingBack")) := let ⟨_, X, G⟩ := Z.hp; He.glo_ok X G (Z.s.fact 66 (f := .glo "NothingBack") rfl)
theorem All.n_NothingBack (Z : All K mg) : NoAttr K (He.ga K "NothingBack") "many" := He.noat_ok (Z.s.fact 67 (f := .noat "NothingBack" "many") rfl)
theorem All.x_NothingBack_NoBook (Z : All K mg) : PySem.W.exmOne K (.ref (He.ga K "NothingBack")) (.ref (He.ga K "NoBook")) = some false := He.exm_ok (Z.s.fact 169 (f := .exm "NothingBack" "NoBook" false) rfl)
theorem All.x_NothingBack_NoSkill (Z : All K mg) : PySem.W.exmOne K (.ref (He.ga K "NothingBack")) (.ref (He.ga K "NoSkill")) = some false := He.exm_ok (Z.s.fact 170 (f := .exm "NothingBack" "NoSkill" false) rfl)
theorem All.x_NothingBack_NoBuild (Z : All K mg) : PySem.W.exmOne K (.ref (He.ga K "NothingBack")) (.ref (He.ga K "NoBuild")) = some false := He.exm_ok (Z.s.fact 171 (f := .exm "NothingBack" "NoBuild" false) rfl)
theorem All.x_NothingBack_NoStep (Z : All K mg) : PySem.W.exmOne K (.ref (He.ga K "NothingBack")) (.ref (He.ga K "NoStep")) = some false := He.exm_ok (Z.s.fact 172 (f := .exm "NothingBack" "NoStep" false) rfl)
theorem All.x_NothingBack_NoPlain (Z : All K mg) : PySem.W.exmOne K (.ref (He.ga K "NothingBack")) (.ref (He.ga K "NoPlain")) = some false := He.exm_ok (Z.s.fact 173 (f := .exm "NothingBack" "NoPlain" false) rfl)
theorem All.x_NothingBack_NoNumber (Z : All K mg) : PySem.W.exmOne K (.ref (He.ga K "NothingBack")) (.ref (He.ga K "NoNumber")) = some false := He.exm_ok (Z.s.fact 174 (f := .exm "NothingBack" "NoNumber" false) rfl)
theorem All.x_NothingBack_NoWorth (Z : All K mg) : PySem.W.exmOne K (.ref (He.ga K "NothingBack")) (.ref (He.ga K "NoWorth")) = some false := He.exm_ok (Z.s.fact 175 (f := .exm "NothingBack" "NoWorth" false) rfl)
theorem All.x_NothingBack_NoSeen (Z : All K mg) : PySem.W.exmOne K (.ref (He.ga K "NothingBack")) (.ref (He.ga K "NoSeen")) = some false := He.exm_ok (Z.s.fact 176 (f := .exm "NothingBack" "NoSeen" false) rfl)
theorem All.x_NothingBack_NoKind (Z : All K mg) : PySem.W.exmOne K (.ref (He.ga K "NothingBack")) (.ref (He.ga K "NoKind")) = some false := He.exm_ok (Z.s.fact 177 (f := .exm "NothingBack" "NoKind" false) rfl)
theorem All.x_NothingBack_NothingBack (Z : All K mg) : PySem.W.exmOne K (.ref (He.ga K "NothingBack")) (.ref (He.ga K "NothingBack")) = some true := He.exm_ok (Z.s.fact 178 (f := .exm "NothingBack" "NothingBack" true) rfl)
theorem All.x_NothingBack_NoNote (Z : All K mg) : PySem.W.exmOne K (.ref (He.ga K "NothingBack")) (.ref (He.ga K "NoNote")) = some false := He.exm_ok (Z.s.fact 179 (f := .exm "NothingBack" "NoNote" false) rfl)
theorem All.f_NoNote_init (Z : All K mg) : ∃ fd, FunD K "__init__" "NoNote.__init__" (defArgs s_NoNote_init) (defBody s_NoNote_init) (defScope s_NoNote_init) [] [] (He.fAd K ("NoNote", some "__init__")) fd := Z.s.def_ 37 (d := dM "NoNote" 12 0 "__init__" "NoNote.__init__") rfl
theorem All.g_NoNote (Z : All K mg) : mg "NoNote" = some (.ref (He.ga K "NoNote")) := let ⟨_, X, G⟩ := Z.hp; He.glo_ok X G (Z.s.fact 68 (f := .glo "NoNote") rfl)
theorem All.n_NoNote (Z : All K mg) : NoAttr K (He.ga K "NoNote") "line" := He.noat_ok (Z.s.fact 69 (f := .noat "NoNote" "line") rfl)
theorem All.x_NoNote_NoBook (Z : All K mg) : PySem.W.exmOne K (.ref (He.ga K "NoNote")) (.ref (He.ga K "NoBook")) = some false := He.exm_ok (Z.s.fact 180 (f := .exm "NoNote" "NoBook" false) rfl)
theorem All.x_NoNote_NoSkill (Z : All K mg) : PySem.W.exmOne K (.ref (He.ga K "NoNote")) (.ref (He.ga K "NoSkill")) = some false := He.exm_ok (Z.s.fact 181 (f := .exm "NoNote" "NoSkill" false) rfl)
theorem All.x_NoNote_NoBuild (Z : All K mg) : PySem.W.exmOne K (.ref (He.ga K "NoNote")) (.ref (He.ga K "NoBuild")) = some false := He.exm_ok (Z.s.fact 182 (f := .exm "NoNote" "NoBuild" false) rfl)
theorem All.x_NoNote_NoStep (Z : All K mg) : PySem.W.exmOne K (.ref (He.ga K "NoNote")) (.ref (He.ga K "NoStep")) = some false := He.exm_ok (Z.s.fact 183 (f := .exm "NoNote" "NoStep" false) rfl)
theorem All.x_NoNote_NoPlain (Z : All K mg) : PySem.W.exmOne K (.ref (He.ga K "NoNote")) (.ref (He.ga K "NoPlain")) = some false := He.exm_ok (Z.s.fact 184 (f := .exm "NoNote" "NoPlain" false) rfl)
theorem All.x_NoNote_NoNumber (Z : All K mg) : PySem.W.exmOne K (.ref (He.ga K "NoNote")) (.ref (He.ga K "NoNumber")) = some false := He.exm_ok (Z.s.fact 185 (f := .exm "NoNote" "NoNumber" false) rfl)
theorem All.x_NoNote_NoWorth (Z : All K mg) : PySem.W.exmOne K (.ref (He.ga K "NoNote")) (.ref (He.ga K "NoWorth")) = some false := He.exm_ok (Z.s.fact 186 (f := .exm "NoNote" "NoWorth" false) rfl)
theorem All.x_NoNote_NoSeen (Z : All K mg) : PySem.W.exmOne K (.ref (He.ga K "NoNote")) (.ref (He.ga K "NoSeen")) = some false := He.exm_ok (Z.s.fact 187 (f := .exm "NoNote" "NoSeen" false) rfl)
theorem All.x_NoNote_NoKind (Z : All K mg) : PySem.W.exmOne K (.ref (He.ga K "NoNote")) (.ref (He.ga K "NoKind")) = some false := He.exm_ok (Z.s.fact 188 (f := .exm "NoNote" "NoKind" false) rfl)
theorem All.x_NoNote_NothingBack (Z : All K mg) : PySem.W.exmOne K (.ref (He.ga K "NoNote")) (.ref (He.ga K "NothingBack")) = some false := He.exm_ok (Z.s.fact 189 (f := .exm "NoNote" "NothingBack" false) rfl)
theorem All.x_NoNote_NoNote (Z : All K mg) : PySem.W.exmOne K (.ref (He.ga K "NoNote")) (.ref (He.ga K "NoNote")) = some true := He.exm_ok (Z.s.fact 190 (f := .exm "NoNote" "NoNote" true) rfl)
end
end Rt
end
section
set_option Elab.async false
set_option linter.all false
set_option maxRecDepth 100000
set_option maxHeartbeats 4000000
/-! small data: what == tells of lists and tuples of them -/
namespace Rt
open PySem PySem.Spec PyProof.Rows L2
def Sm (d : PyData) : Prop := PyData.canLay0 d = true ∧ PyData.depth d ≤ 20
def Dsm (K : PySem.W.Frag) (H : Hp) (x : V) : Prop := ∃ d, Dp K H x d ∧ Sm d
theorem sm_all : ∀ {ds : List PyData}, (∀ d ∈ ds, Sm d) → PyData.canLayAll0 ds = true ∧ PyData.depthAll ds ≤ 20
  | [], _ => ⟨by simp [PyData.canLayAll0], by simp [PyData.depthAll]⟩
  | d :: ds, h => by
    obtain ⟨h1, h2⟩ := sm_all (ds := ds) fun y hy => h y (List.mem_cons_of_mem _ hy)
    obtain ⟨h3, h4⟩ := h d List.mem_cons_self
    refine ⟨by simp [PyData.canLayAll0, h3, h1], ?_⟩
    simp only [PyData.depthAll]
    omega
theorem shaped_of {d : PyData} (h1 : PyData.canLay0 d = true) (h2 : PyData.depth d ≤ 64) : SeqAt.shaped d = true := by
  show (PyData.canLay0 d && decide (PyData.depth d ≤ 64)) = true
  rw [h1, decide_eq_true h2]
  rfl
theorem Sm.shaped {d : PyData} (h : Sm d) : SeqAt.shaped d = true := shaped_of h.1 (by have := h.2; omega)
theorem shaped_lst {ds : List PyData} (h : ∀ d ∈ ds, Sm d) : SeqAt.shaped (.list ds) = true := by
  obtain ⟨h1, h2⟩ := sm_all h
  refine shaped_of (by simp only [PyData.canLay0]; exact h1) ?_
  simp only [PyData.depth]
  omega
theorem shaped_tup {ds : List PyData} (h : ∀ d ∈ ds, Sm d) : SeqAt.shaped (.tuple ds) = true := by
  obtain ⟨h1, h2⟩ := sm_all h
  refine shaped_of (by simp only [PyData.canLay0]; exact h1) ?_
  simp only [PyData.depth]
  omega
theorem dpAll_sm {K : PySem.W.Frag} {H : Hp} : ∀ {xs : List V}, (∀ x ∈ xs, Dsm K H x) → ∃ ds, DpAll K H xs ds ∧ ds.length = xs.length ∧ ∀ d ∈ ds, Sm d
  | [], _ => ⟨[], .nil, rfl, fun _ h => absurd h (by simp)⟩
  | x :: xs, h => by
    obtain ⟨ds, h1, h2, h3⟩ := dpAll_sm (xs := xs) fun y hy => h y (List.mem_cons_of_mem _ hy)
    obtain ⟨d, h4, h5⟩ := h x List.mem_cons_self
    refine ⟨d :: ds, .cons h4 h1, by rw [List.length_cons, List.length_cons, h2], fun e he => ?_⟩
    rcases List.mem_cons.mp he with rfl | he
    · exact h5
    · exact h3 e he
theorem eqv_nilL : ∀ ds : List PyData, PyData.eqv (.list ds) (.list []) = ds.isEmpty
  | [] => by simp [PyData.eqv, PyData.eqvAll]
  | d :: ds => by simp [PyData.eqv, PyData.eqvAll]
mutual
theorem eqv_rfl : ∀ d : PyData, PyData.canLay0 d = true → PyData.eqv d d = true
  | .none, _ => by simp [PyData.eqv]
  | .bool b, _ => by simp [PyData.eqv]
  | .int i, _ => by simp [PyData.eqv]
  | .str x, _ => by simp [PyData.eqv]
  | .list xs, h => by
    simp only [PyData.eqv]
    exact eqv_rflAll xs (by simpa only [PyData.canLay0] using h)
  | .tuple xs, h => by
    simp only [PyData.eqv]
    exact eqv_rflAll xs (by simpa only [PyData.canLay0] using h)
  | .dict _, h => by simp [PyData.canLay0] at h
theorem eqv_rflAll : ∀ ds : List PyData, PyData.canLayAll0 ds = true → PyData.eqvAll ds ds = true
  | [], _ => by simp [PyData.eqvAll]
  | d :: ds, h => by
    have h' : PyData.canLay0 d = true ∧ PyData.canLayAll0 ds = true := by simpa [PyData.canLayAll0] using h
    simp [PyData.eqvAll, eqv_rfl d h'.1, eqv_rflAll ds h'.2]
end
theorem sm_str {z : Str} (h : PyData.strOk z = true) : Sm (.str z) := ⟨by simp [PyData.canLay0, h], by simp [PyData.depth]⟩
theorem sm_int (i : Int) : Sm (.int i) := ⟨by simp [PyData.canLay0], by simp [PyData.depth]⟩
def rEqE (K : PySem.W.Frag) : R2 := fun x y H Q => ∃ a xs b, x = .ref a ∧ y = .ref b ∧ SqL K H a xs ∧ SqL K H b [] ∧ (∀ x ∈ xs, Dsm K H x) ∧ Q (.bl xs.isEmpty) H
def rNeE (K : PySem.W.Frag) : R2 := fun x y H Q => ∃ a xs b, x = .ref a ∧ y = .ref b ∧ SqL K H a xs ∧ SqL K H b [] ∧ (∀ x ∈ xs, Dsm K H x) ∧ Q (.bl (!xs.isEmpty)) H
theorem emp_same {α β : Type} {xs : List α} {ds : List β} (h : ds.length = xs.length) : ds.isEmpty = xs.isEmpty := by
  cases ds <;> cases xs <;> simp_all
section
variable {X : Cx}
theorem op_eqE (hu : X.A.units + 64 < cLine) : OpR X (compareOp .Eq) (rEqE X.K) := by
  intro pins s σ H x y v u Q I rx ry h
  obtain ⟨a, xs, b, rfl, rfl, ha, hb, sm, q⟩ := h
  obtain ⟨ds, d1, d2, d3⟩ := dpAll_sm sm
  refine op_eqD hu pins s σ H _ _ v u Q I rx ry ⟨.list ds, .list [], .lst ha d1, .lst hb .nil, shaped_lst d3, by rfl, ?_⟩
  rw [eqv_nilL, emp_same d2]
  exact q
theorem op_neE (hu : X.A.units + 64 < cLine) : OpR X (compareOp .NotEq) (rNeE X.K) := by
  intro pins s σ H x y v u Q I rx ry h
  obtain ⟨a, xs, b, rfl, rfl, ha, hb, sm, q⟩ := h
  obtain ⟨ds, d1, d2, d3⟩ := dpAll_sm sm
  refine op_neD hu pins s σ H _ _ v u Q I rx ry ⟨.list ds, .list [], .lst ha d1, .lst hb .nil, shaped_lst d3, by rfl, ?_⟩
  rw [eqv_nilL, emp_same d2]
  exact q
end
end Rt
end
section
set_option Elab.async false
set_option linter.all false
set_option maxRecDepth 100000
set_option maxHeartbeats 8000000
/-! what every law's proof shares, apart from any row -/
namespace Rt
open PySem PySem.Spec PyProof.Rows L2
theorem Ts.same {K : PySem.W.Frag} {H H' : Hp} {x : V} {T : String} (h : Ts K H x T) (e : Same H H') : Ts K H' x T := by
  cases h with
  | non => exact .non
  | bl b => exact .bl b
  | int i => exact .int i
  | str x => exact .str x
  | tup h => exact .tup (sqT_same e h)
  | lst h => exact .lst (e _ _ h)
  | dct h => exact .dct (e _ _ h)
theorem lenV_sq {K : PySem.W.Frag} {H : Hp} {a : Addr} {xs : List V} (h : Sq K H a xs) : LenV K (.ref a) H xs.length := by
  rcases h with h | h
  · exact .inl ⟨xs, h, rfl⟩
  · exact .inr ⟨xs, h, rfl⟩
def strOf : V → Option Str
  | .str z => some z
  | _ => none
/-- a pool of two numbers -/
def PoolAt (H : Hp) (p : Addr) : Prop := ∃ x y : Int, H p = some (.lst [.int x, .int y]) ∧ 0 ≤ x ∧ 0 ≤ y ∧ y < 2147483647
/-- the pool has turned, all else stands -/
structure Aft (p : Addr) (H H' : Hp) : Prop where
  pool : PoolAt H' p
  keep : ∀ b o, b ≠ p → H b = some o → H' b = some o
theorem Aft.trans {p : Addr} {H H1 H2 : Hp} (a : Aft p H H1) (b : Aft p H1 H2) : Aft p H H2 := ⟨b.pool, fun c o n h => b.keep c o n (a.keep c o n h)⟩
theorem Aft.refl {p : Addr} {H : Hp} (h : PoolAt H p) : Aft p H H := ⟨h, fun _ _ _ h => h⟩
theorem Aft.new {p q : Addr} {H H' : Hp} {o : HO} (a : Aft p H H') (n : H' q = none) : Aft p H (upd H' q o) := by
  obtain ⟨x, y, h, r⟩ := a.pool
  refine ⟨⟨x, y, Same.new n _ _ h, r⟩, fun b u nb hb => Same.new n _ _ (a.keep b u nb hb)⟩
theorem Aft.same {p : Addr} {H H1 H2 : Hp} (a : Aft p H H1) (s : Same H1 H2) : Aft p H H2 := by
  obtain ⟨x, y, h, r⟩ := a.pool
  exact ⟨⟨x, y, s _ _ h, r⟩, fun b u nb hb => s _ _ (a.keep b u nb hb)⟩
theorem Aft.sqL {K : PySem.W.Frag} {p b : Addr} {H H' : Hp} {xs : List V} (a : Aft p H H') (h : SqL K H b xs) (n : b ≠ p) : SqL K H' b xs := by
  rcases h with (h | ⟨o, h⟩) | h
  · exact .inl (.inl (a.keep _ _ n h))
  · exact .inl (.inr ⟨o, a.keep _ _ n h⟩)
  · exact .inr h
theorem Aft.sqT {K : PySem.W.Frag} {p b : Addr} {H H' : Hp} {xs : List V} (a : Aft p H H') (h : SqT K H b xs) (n : b ≠ p) : SqT K H' b xs := by
  rcases h with (h | ⟨o, h⟩) | h
  · exact .inl (.inl (a.keep _ _ n h))
  · exact .inl (.inr ⟨o, a.keep _ _ n h⟩)
  · exact .inr h
theorem PoolAt.same {p : Addr} {H H' : Hp} (h : PoolAt H p) (s : Same H H') : PoolAt H' p := let ⟨x, y, e, r⟩ := h; ⟨x, y, s _ _ e, r⟩
theorem PoolAt.ne {p q : Addr} {H : Hp} (h : PoolAt H p) (n : H q = none) : q ≠ p := fun e => by
  obtain ⟨x, y, hp, _⟩ := h
  rw [e, hp] at n
  cases n
theorem atI_of {xs : List V} {r : Int} (h0 : 0 ≤ r) (h1 : r < xs.length) : ∃ i x, xs[i]? = some x ∧ atI xs r = some x ∧ r = (i : Nat) := by
  have l : r.toNat < xs.length := by omega
  have e : r = (r.toNat : Int) := by omega
  exact ⟨r.toNat, xs[r.toNat], List.getElem?_eq_getElem l, at_of e (List.getElem?_eq_getElem l), e⟩
theorem six_of {r : Int} {n : Nat} (h0 : 0 ≤ r) (h1 : r < n) : seqIndex? r n = some r.toNat := by
  have h2 : ¬ r < 0 := by omega
  unfold seqIndex?
  simp [h2, h0, h1]
theorem eqv_nil (zs : List Str) : PyData.eqv (.list (zs.map PyData.str)) (.list []) = zs.isEmpty := by
  cases zs with
  | nil => simp [PyData.eqv, PyData.eqvAll]
  | cons z zs => simp [PyData.eqv, PyData.eqvAll]
def Oks (zs : List Str) : Prop := ∀ z ∈ zs, PyData.strOk z = true
theorem lay_strs : ∀ {zs : List Str}, Oks zs → PyData.canLayAll0 (zs.map PyData.str) = true ∧ PyData.depthAll (zs.map PyData.str) ≤ 1
  | [], _ => ⟨by simp [PyData.canLayAll0], by simp [PyData.depthAll]⟩
  | z :: zs, h => by
    obtain ⟨h1, h2⟩ := lay_strs (zs := zs) fun y hy => h y (List.mem_cons_of_mem _ hy)
    have h3 := h z List.mem_cons_self
    refine ⟨by simp [PyData.canLayAll0, PyData.canLay0, h3, h1], ?_⟩
    simp only [List.map_cons, PyData.depthAll, PyData.depth]
    omega
theorem shaped_strs {zs : List Str} (h : Oks zs) : SeqAt.shaped (.list (zs.map PyData.str)) = true := by
  obtain ⟨h1, h2⟩ := lay_strs h
  show (PyData.canLay0 (.list (zs.map PyData.str)) && decide (PyData.depth (.list (zs.map PyData.str)) ≤ 64)) = true
  rw [Bool.and_eq_true]
  exact ⟨by simp only [PyData.canLay0]; exact h1, decide_eq_true (by simp only [PyData.depth]; omega)⟩
theorem dpAll_strs {K : PySem.W.Frag} {H : Hp} : ∀ zs : List Str, DpAll K H (zs.map V.str) (zs.map PyData.str)
  | [] => .nil
  | z :: zs => .cons (.str z) (dpAll_strs zs)
theorem dp_strs {K : PySem.W.Frag} {H : Hp} {a : Addr} {zs : List Str} (h : SqL K H a (zs.map V.str)) : Dp K H (.ref a) (.list (zs.map PyData.str)) := .lst h (dpAll_strs zs)
def Tk (H H' : Hp) : Prop := ∀ b xs, H b = some (.tup xs) → H' b = some (.tup xs)
theorem Tk.refl (H : Hp) : Tk H H := fun _ _ h => h
theorem Tk.trans {H H1 H2 : Hp} (a : Tk H H1) (b : Tk H1 H2) : Tk H H2 := fun c xs h => b c xs (a c xs h)
theorem Tk.of {H H' : Hp} (s : Same H H') : Tk H H' := fun b xs h => s b _ h
theorem Tk.new {H : Hp} {q : Addr} {o : HO} (n : H q = none) : Tk H (upd H q o) := .of (Same.new n)
theorem Tk.lst {H : Hp} {q : Addr} {xs : List V} {o : HO} (h : H q = some (.lst xs)) : Tk H (upd H q o) := fun b ys hb => by
  rw [upd_ne (ne_of hb h (by intro z; cases z))]
  exact hb
theorem Aft.tk {p : Addr} {H H' : Hp} (a : Aft p H H') (h : PoolAt H p) : Tk H H' := fun b xs hb => by
  obtain ⟨x, y, hp, _⟩ := h
  exact a.keep b _ (ne_of hb hp (by intro z; cases z)) hb
theorem Aft.free {p b : Addr} {H H' : Hp} (a : Aft p H H') (h : H' b = none) : b = p ∨ H b = none := by
  by_cases e : b = p
  · exact .inl e
  · refine .inr ?_
    cases q : H b with
    | none => rfl
    | some o =>
      rw [a.keep b o e q] at h
      cases h
theorem Aft.free' {p b : Addr} {H H' : Hp} (a : Aft p H H') (h : H' b = none) : H b = none := by
  rcases a.free h with e | e
  · obtain ⟨x, y, q, _⟩ := a.pool
    rw [e, q] at h
    cases h
  · exact e
theorem Aft.put {p q : Addr} {H H' : Hp} {o : HO} (a : Aft p H H') (f : H q = none) (n : q ≠ p) : Aft p H (upd H' q o) := by
  obtain ⟨x, y, h, r⟩ := a.pool
  refine ⟨⟨x, y, by rw [upd_ne n.symm]; exact h, r⟩, fun b u nb hb => ?_⟩
  rw [upd_ne (ne_of_none hb f)]
  exact a.keep b u nb hb
def Rw (H : Hp) (x : V) (vs : List V) : Prop := ∃ p, x = .ref p ∧ H p = some (.tup vs)
abbrev Rws (H : Hp) (xs : List V) (rows : List (List V)) : Prop := Paired (Rw H) xs rows
theorem Rw.tk {H H' : Hp} {x : V} {vs : List V} (h : Rw H x vs) (k : Tk H H') : Rw H' x vs := let ⟨p, e, a⟩ := h; ⟨p, e, k p _ a⟩
theorem Rws.tk {H H' : Hp} (k : Tk H H') : ∀ {xs : List V} {rows : List (List V)}, Rws H xs rows → Rws H' xs rows
  | _, _, .nil => .nil
  | _, _, .cons r t => .cons (r.tk k) (Rws.tk k t)
theorem Rws.snoc {H : Hp} {x : V} {vs : List V} (r : Rw H x vs) : ∀ {xs : List V} {rows : List (List V)}, Rws H xs rows → Rws H (xs ++ [x]) (rows ++ [vs])
  | _, _, .nil => .cons r .nil
  | _, _, .cons q t => .cons q (Rws.snoc r t)
theorem Rws.len {H : Hp} {xs : List V} {rows : List (List V)} (h : Rws H xs rows) : xs.length = rows.length := Paired.length h
theorem Rws.get {H : Hp} : ∀ {xs : List V} {rows : List (List V)} {i : Nat} {x : V}, Rws H xs rows → xs[i]? = some x → ∃ vs, rows[i]? = some vs ∧ Rw H x vs
  | _, _, _, _, .nil, e => by simp at e
  | _, _, 0, _, .cons r _, e => by
    simp at e
    subst e
    exact ⟨_, rfl, r⟩
  | _, _, i + 1, x, .cons _ t, e => by
    obtain ⟨vs, h1, h2⟩ := Rws.get (i := i) (x := x) t (by simpa using e)
    exact ⟨vs, by simpa using h1, h2⟩
theorem small_in {ds : List Int} {lo hi : Int} (h : ∀ d ∈ ds, lo ≤ d ∧ d ≤ hi) {x : V} (hx : x ∈ ds.map V.int) : ∃ d, x = .int d ∧ lo ≤ d ∧ d ≤ hi := by
  obtain ⟨d, hd, rfl⟩ := List.mem_map.mp hx
  exact ⟨d, rfl, h d hd⟩
theorem strs_get {zs : List Str} {i : Nat} {y : V} (h : (zs.map V.str)[i]? = some y) : ∃ z, y = .str z ∧ zs[i]? = some z := by
  rw [List.getElem?_map] at h
  cases q : zs[i]? with
  | none => rw [q] at h; cases h
  | some z =>
    rw [q] at h
    exact ⟨z, (Option.some.inj h).symm, rfl⟩
theorem asc_snoc {α : Type} {R : α → α → Prop} {xs : List α} {x : α} (h : xs.Pairwise R) (b : ∀ y ∈ xs, R y x) : (xs ++ [x]).Pairwise R := by
  rw [List.pairwise_append]
  refine ⟨h, List.pairwise_singleton _ _, fun a ha c hc => ?_⟩
  rw [List.mem_singleton.mp hc]
  exact b a ha
theorem cut_take (xs : List V) (k : Nat) : cutV xs none (some (k : Int)) = xs.take k := by
  unfold cutV
  rw [HT.sIx_none, HT.sIx_nat, List.drop_zero, Nat.sub_zero]
  by_cases h : k ≤ xs.length
  · rw [Nat.min_eq_left h]
  · rw [Nat.min_eq_right (by omega), List.take_length, List.take_of_length_le (by omega)]
theorem Tk.dct {H : Hp} {q : Addr} {kvs : List (Key × V)} {o : HO} (h : H q = some (.dK kvs)) : Tk H (upd H q o) := fun b ys hb => by
  rw [upd_ne (ne_of hb h (by intro z; cases z))]
  exact hb
theorem by_ {te : TE} {σ : L2.St} {H : Hp} {Q : VK} (Pv : V → Hp → Prop) (h1 : ∀ Q : VK, (∀ x H', Pv x H' → Q x H') → te σ H Q) (h2 : ∀ x H', Pv x H' → Q x H') : te σ H Q := h1 Q h2
theorem ts_by {ts : TS} {D : Ends} {σ : L2.St} {H : Hp} (Pv : L2.St → Hp → Prop) (h1 : ∀ D : Ends, (∀ σ H, Pv σ H → D.nx σ H) → ts D σ H) (h2 : ∀ σ H, Pv σ H → D.nx σ H) : ts D σ H := h1 D h2
theorem for_rng_by {te : TE} {g : TG} {tb : TS} {D : Ends} {σ : L2.St} {H : Hp} (Pn : Int → Hp → Prop) (h1 : ∀ Q : VK, (∀ n H', Pn n H' → Q (.int n) H') → te σ H Q)
    (h2 : ∀ n H', Pn n H' → -(2 ^ 62) ≤ n ∧ n < 2 ^ 62 ∧ ∃ Pv : Nat → L2.St → Hp → Prop, Pv 0 σ H' ∧ (∀ i σ H, i < n.toNat → Pv i σ H → g (.int (0 + (i : Int))) σ H fun σ2 H2 => tb { D with nx := Pv (i + 1), ct := Pv (i + 1), bk := D.nx } σ2 H2) ∧ ∀ σ H, Pv n.toNat σ H → D.nx σ H) :
    tFor (iRng1 (tCons te tNil)) g tb D σ H := by
  show te σ H fun x H1 => _
  refine h1 _ fun n H' hn => ?_
  obtain ⟨b1, b2, Pv, p0, ps, pd⟩ := h2 n H' hn
  exact ⟨n, rfl, b1, b2, for_range Pv p0 ps pd⟩
/-- a list or a tuple, and isinstance sees which -/
structure Lt (K : PySem.W.Frag) (H : Hp) (a : Addr) (xs : List V) : Prop where
  sq : Sq K H a xs
  ty : ∃ T, Ts K H (.ref a) T ∧ (T = "list" ∨ T = "tuple")
theorem Lt.same {K : PySem.W.Frag} {H H' : Hp} {a : Addr} {xs : List V} (h : Lt K H a xs) (s : Same H H') : Lt K H' a xs := ⟨h.sq.same s, let ⟨T, t, e⟩ := h.ty; ⟨T, t.same s, e⟩⟩
theorem Lt.lst {K : PySem.W.Frag} {H : Hp} {a : Addr} {xs : List V} (h : H a = some (.lst xs)) : Lt K H a xs := ⟨.inl (SqL.of h), "list", .lst h, .inl rfl⟩
theorem Lt.tup {K : PySem.W.Frag} {H : Hp} {a : Addr} {xs : List V} (h : H a = some (.tup xs)) : Lt K H a xs := ⟨.inr (SqT.of h), "tuple", .tup (SqT.of h), .inr rfl⟩
theorem Lt.tupK {K : PySem.W.Frag} {H : Hp} {a : Addr} {xs : List V} (h : SqT K H a xs) : Lt K H a xs := ⟨.inr h, "tuple", .tup h, .inr rfl⟩
theorem Rws.same {H H' : Hp} {xs : List V} {rows : List (List V)} (h : Rws H xs rows) (s : Same H H') : Rws H' xs rows := h.tk (Tk.of s)
theorem dec_len {n m : Nat} : decide (V.int (n : Int) = V.int (m : Int)) = decide (n = m) := by
  by_cases h : n = m
  · subst h
    rw [decide_eq_true rfl, decide_eq_true rfl]
  · rw [decide_eq_false h, decide_eq_false fun e => h (by injection e with e; omega)]
theorem pg_tupK {X : Cx} {K : PySem.W.Frag} {es : List Expr} {k : Nat} {t : TGs} {n : Nat} {pos : Pos} (hK : X.K = K) (hc : X.calm = true) (h : PGs X es t)
    (hn : (assignEach es X.env).length = n := by rfl) (hst : (assignEach es X.env).findIdx? (·.1) = none := by rfl) : PG X (.Tuple es k pos) (gTup K n t) := by
  subst hK
  exact pg_tup hc h hn hst
theorem all_true : ∀ xs : List V, (xs.map fun _ => true).all id = true
  | [] => rfl
  | _ :: xs => all_true xs
theorem Rws.at_ {α : Type} {f : α → List V} {H : Hp} {xs : List V} {l : List α} {i : Nat} {x : V} (rows : Rws H xs (l.map f)) (h : xs[i]? = some x) : ∃ r p, l[i]? = some r ∧ x = .ref p ∧ H p = some (.tup (f r)) := by
  obtain ⟨vs, hv, p, rfl, hp⟩ := rows.get h
  rw [List.getElem?_map] at hv
  cases e : l[i]? with
  | none => rw [e] at hv; cases hv
  | some r =>
    rw [e] at hv
    cases hv
    exact ⟨r, p, rfl, rfl, hp⟩
theorem take_line {α β : Type} {f : α → β} {xs : List α} (i : Nat) {m : Nat} (h : xs.length ≤ m) (hm : m ≤ 100000) : ((xs.take i).map f).length < sizeLine := by
  refine line_of (m := m) ?_ hm
  rw [List.length_map]
  exact Nat.le_trans (List.length_take_le' _ _) h
theorem lc_seqS {K : PySem.W.Frag} {H1 : Hp} {a : Addr} {xs : List V} {g : TG} {tt : TT} {te : TE} {vs : List Nat} {σ : L2.St} {Q : Addr → Hp → Prop} (h : Sq K H1 a xs) (P : Addr → Nat → Hp → Prop) (h0 : ∀ D, H1 D = none → P D 0 (upd H1 D (.lst [])))
    (hs : ∀ D i H, P D i H → Same H1 H)
    (turn : ∀ D, H1 D = none → ∀ i x H, xs[i]? = some x → P D i H → g x (wipe σ vs) H fun σ2 H2 => wipe σ2 vs = wipe σ vs ∧ tt σ2 H2 fun b H3 =>
      if b = true then te σ2 H3 fun y H4 => ∃ acc, H4 D = some (.lst acc) ∧ acc.length < sizeLine ∧ P D (i + 1) (upd H4 D (.lst (acc ++ [y]))) else P D (i + 1) H3)
    (fin : ∀ D H, H1 D = none → P D xs.length H → Q D H) :
    ((∃ xs, SqL K H1 a xs) ∧ LcR g tt te vs σ Q (Itl K a) H1) ∨ ((∃ xs, SqT K H1 a xs) ∧ LcR g tt te vs σ Q (Itt K a) H1) := by
  refine seq_by (R := LcR g tt te vs σ Q) h fun J G w g0 D nD => ?_
  refine lc_it w (P D) (h0 D nD) (fun i H _ p => g0 H (hs D i H p)) ?_ (fun H p => fin D H nD p)
  rintro i x H2 H3 hi p ⟨rfl, hx⟩
  exact turn D nD i x H3 hx p
def TkMono {α : Type} (R : Hp → V → α → Prop) : Prop := ∀ H H' x w, Tk H H' → R H x w → R H' x w
structure LcN {α : Type} (H1 : Hp) (D : Addr) (R : Hp → V → α → Prop) (L : Nat → List α) (i : Nat) (H : Hp) : Prop where
  same : Same H1 H
  at_ : ∃ ys, H D = some (.lst ys) ∧ Paired (R H) ys (L i)
theorem paired_mono {α : Type} {R S : V → α → Prop} (h : ∀ x w, R x w → S x w) : ∀ {xs : List V} {ws : List α}, Paired R xs ws → Paired S xs ws
  | _, _, .nil => .nil
  | _, _, .cons r t => .cons (h _ _ r) (paired_mono h t)
theorem paired_snoc {α : Type} {R : V → α → Prop} {x : V} {w : α} (r : R x w) : ∀ {xs : List V} {ws : List α}, Paired R xs ws → Paired R (xs ++ [x]) (ws ++ [w])
  | _, _, .nil => .cons r .nil
  | _, _, .cons q t => .cons q (paired_snoc r t)
theorem paired_app {α : Type} {R : V → α → Prop} {ys : List V} {vs : List α} (h : Paired R ys vs) : ∀ {xs : List V} {ws : List α}, Paired R xs ws → Paired R (xs ++ ys) (ws ++ vs)
  | _, _, .nil => h
  | _, _, .cons q t => .cons q (paired_app h t)
theorem paired_at {α : Type} {R : V → α → Prop} : ∀ {xs : List V} {ws : List α} {i : Nat} {x : V}, Paired R xs ws → xs[i]? = some x → ∃ w, ws[i]? = some w ∧ R x w
  | _, _, _, _, .nil, e => by simp at e
  | _, _, 0, _, .cons r _, e => by
    simp at e
    subst e
    exact ⟨_, rfl, r⟩
  | _, _, i + 1, x, .cons _ t, e => by
    obtain ⟨w, h1, h2⟩ := paired_at (i := i) (x := x) t (by simpa using e)
    exact ⟨w, by simpa using h1, h2⟩
section
variable {α : Type} {H1 H H' : Hp} {D : Addr} {R : Hp → V → α → Prop} {L : Nat → List α} {i : Nat}
theorem LcN.zero (nD : H1 D = none) (e : L 0 = []) : LcN H1 D R L 0 (upd H1 D (.lst [])) := ⟨Same.new nD, [], upd_same, by rw [e]; exact .nil⟩
theorem LcN.ext (m : TkMono R) (h : LcN H1 D R L i H) (s : Same H H') : LcN H1 D R L i H' := by
  obtain ⟨ys, e, p⟩ := h.at_
  exact ⟨h.same.trans s, ys, s _ _ e, paired_mono (fun x w r => m _ _ _ _ (Tk.of s) r) p⟩
theorem LcN.skip (h : LcN H1 D R L i H) (e : L (i + 1) = L i) : LcN H1 D R L (i + 1) H := ⟨h.same, by rw [e]; exact h.at_⟩
theorem LcN.put {y : V} {w : α} (m : TkMono R) (h : LcN H1 D R L i H) (nD : H1 D = none) (r : R H y w) (e : L (i + 1) = L i ++ [w]) (hl : (L i).length < sizeLine) :
    ∃ acc, H D = some (.lst acc) ∧ acc.length < sizeLine ∧ LcN H1 D R L (i + 1) (upd H D (.lst (acc ++ [y]))) := by
  obtain ⟨ys, e1, p⟩ := h.at_
  have tk : Tk H (upd H D (.lst (ys ++ [y]))) := Tk.lst e1
  refine ⟨ys, e1, by rw [Paired.length p]; exact hl, fun b o hb => ?_, ys ++ [y], upd_same, ?_⟩
  · rw [upd_ne (ne_of_none hb nD)]
    exact h.same b o hb
  · rw [e]
    exact paired_snoc (m _ _ _ _ tk r) (paired_mono (fun x w q => m _ _ _ _ tk q) p)
end
theorem lc_new {α : Type} {K : PySem.W.Frag} {H1 : Hp} {a : Addr} {xs : List V} {g : TG} {tt : TT} {te : TE} {vs : List Nat} {σ : L2.St} {Q : Addr → Hp → Prop} (h : Sq K H1 a xs) (R : Hp → V → α → Prop) (L : Nat → List α) (h0 : L 0 = [])
    (turn : ∀ D, H1 D = none → ∀ i x H, xs[i]? = some x → LcN H1 D R L i H → g x (wipe σ vs) H fun σ2 H2 => wipe σ2 vs = wipe σ vs ∧ tt σ2 H2 fun b H3 =>
      if b = true then te σ2 H3 fun y H4 => ∃ acc, H4 D = some (.lst acc) ∧ acc.length < sizeLine ∧ LcN H1 D R L (i + 1) (upd H4 D (.lst (acc ++ [y]))) else LcN H1 D R L (i + 1) H3)
    (fin : ∀ D H ys, H1 D = none → Same H1 H → H D = some (.lst ys) → Paired (R H) ys (L xs.length) → Q D H) :
    ((∃ xs, SqL K H1 a xs) ∧ LcR g tt te vs σ Q (Itl K a) H1) ∨ ((∃ xs, SqT K H1 a xs) ∧ LcR g tt te vs σ Q (Itt K a) H1) :=
  lc_seqS h (fun D i H => LcN H1 D R L i H) (fun D nD => .zero nD h0) (fun D i H p => p.same) turn fun D H nD p => let ⟨ys, e, q⟩ := p.at_; fin D H ys nD p.same e q
/-- a tuple of texts -/
def BT (H : Hp) (x : V) (b : List Str) : Prop := ∃ q, x = .ref q ∧ H q = some (.tup (b.map V.str))
theorem bt_mono : TkMono BT := fun H H' x w k ⟨q, e, h⟩ => ⟨q, e, k _ _ h⟩
theorem eqV_str (n z : Str) : eqV (.str n) (.str z) = decide (n = z) := by
  first | rfl | (show (n == z) = decide (n = z); rfl) | (simp [eqV])
def Lay (n : Nat) (d : PyData) : Prop := d.canLay0 = true ∧ d.depth ≤ n
def LayA (n : Nat) (ds : List PyData) : Prop := PyData.canLayAll0 ds = true ∧ PyData.depthAll ds ≤ n
theorem Lay.mono {n m : Nat} {d : PyData} (h : Lay n d) (k : n ≤ m) : Lay m d := ⟨h.1, Nat.le_trans h.2 k⟩
theorem LayA.nil {n : Nat} : LayA n [] := ⟨by simp [PyData.canLayAll0], by simp [PyData.depthAll]⟩
theorem LayA.cons {n : Nat} {d : PyData} {ds : List PyData} (h : Lay n d) (k : LayA n ds) : LayA n (d :: ds) := by
  refine ⟨by simp [PyData.canLayAll0, h.1, k.1], ?_⟩
  have h2 := h.2
  have k2 := k.2
  simp only [PyData.depthAll]
  omega
theorem LayA.of {n : Nat} : ∀ {ds : List PyData}, (∀ d ∈ ds, Lay n d) → LayA n ds
  | [], _ => .nil
  | d :: ds, h => .cons (h d List.mem_cons_self) (LayA.of fun e he => h e (List.mem_cons_of_mem _ he))
theorem Lay.tup {n : Nat} {ds : List PyData} (h : LayA n ds) : Lay (n + 1) (.tuple ds) := by
  refine ⟨by simp only [PyData.canLay0]; exact h.1, ?_⟩
  have h2 := h.2
  simp only [PyData.depth]
  omega
theorem Lay.lst {n : Nat} {ds : List PyData} (h : LayA n ds) : Lay (n + 1) (.list ds) := by
  refine ⟨by simp only [PyData.canLay0]; exact h.1, ?_⟩
  have h2 := h.2
  simp only [PyData.depth]
  omega
theorem Lay.str {n : Nat} {z : Str} (h : PyData.strOk z = true) : Lay n (.str z) := ⟨by simp [PyData.canLay0, h], by simp [PyData.depth]⟩
theorem Lay.int {n : Nat} {i : Int} : Lay n (.int i) := ⟨by simp [PyData.canLay0], by simp [PyData.depth]⟩
theorem Lay.non {n : Nat} : Lay n .none := ⟨by simp [PyData.canLay0], by simp [PyData.depth]⟩
theorem Lay.bl {n : Nat} {b : Bool} : Lay n (.bool b) := ⟨by simp [PyData.canLay0], by simp [PyData.depth]⟩
theorem Lay.shaped {n : Nat} {d : PyData} (h : Lay n d) (k : n ≤ 64) : SeqAt.shaped d = true := by
  show (d.canLay0 && decide (d.depth ≤ 64)) = true
  rw [Bool.and_eq_true]
  exact ⟨h.1, decide_eq_true (Nat.le_trans h.2 k)⟩
theorem dp_strA {K : PySem.W.Frag} {H : Hp} : ∀ zs : List Str, DpAll K H (zs.map V.str) (zs.map PyData.str)
  | [] => .nil
  | z :: zs => .cons (.str z) (dp_strA zs)
theorem lay_strA {n : Nat} {zs : List Str} (h : Oks zs) : LayA n (zs.map PyData.str) := LayA.of fun d hd => by
  obtain ⟨z, hz, rfl⟩ := List.mem_map.mp hd
  exact Lay.str (h z hz)
def rEqDD (K : PySem.W.Frag) : R2 := fun x y H Q => ∃ a b ks ls, x = .ref a ∧ y = .ref b ∧ H a = some (.dK ks) ∧ H b = some (.dK ls) ∧ ks.length = ls.length ∧
  (∀ p ∈ ks, ∃ u, valV ls p.1 = some u ∧ ∃ d, Dp K H p.2 d ∧ Dp K H u d ∧ Lay 60 d) ∧ Q (.bl true) H
theorem op_eqDD {X : Cx} (room : X.A.units + 70 < cLine) : OpR X (compareOp .Eq) (rEqDD X.K) := by
  intro pins s σ H x y v u Q I rx ry ⟨a, b, ks, ls, ex, ey, ha, hb, len, vals, q⟩
  subst ex ey
  cases rx
  cases ry
  have like : ∀ (x y : V) (v u : Value), (∃ d, Dp X.K H x d ∧ Dp X.K H y d ∧ Lay 60 d) → RelV x v → RelV y u → SeqAt.EqP X.prog X.w X.A.in1 s v u true := by
    rintro x y v u ⟨d, d1, d2, lay⟩ r1 r2
    obtain ⟨_, t1⟩ := d1.reads I d x v r1
    obtain ⟨_, t2⟩ := d2.reads I d y u r2
    have e := SeqAt.eqAt_reads d d X.A.in1 s v u _ _ t1 t2 lay.1 lay.1 (by
      have l2 := lay.2
      have l3 : X.A.in1.units = X.A.units + 1 := rfl
      rw [Nat.min_self, l3]
      omega)
    rw [SeqAt.eqv_refl d lay.1] at e
    exact e.eqP
  obtain ⟨_, n1, va, r1, c1⟩ := (show ObjOk X.prog X.w H s.heap a (.dK ks) from I.hok a _ ha)
  obtain ⟨_, n2, vb, r2, c2⟩ := (show ObjOk X.prog X.w H s.heap b (.dK ls) from I.hok b _ hb)
  have same : (va.length == vb.length && true) = true := by rw [← r1.length, ← r2.length, len]; simp
  show wpAny (model X.prog X.w) X.A (richCompare .Eq (.ref a) (.ref b)) (EP X pins σ Q) X.xe s
  refine PySem.W.rcP_dicts (r := true) (knd := mixKind X.prog X.w) n1 n2 c1 c2 (by omega) (fun _ => hits_run like r2 r1 vals) _ _ ?_
  rw [same]
  exact ⟨.bl true, H, I, rfl, q⟩
def letters : Str := "abcdefghijklmnopqrstuvwxyz"
def signs (z : Str) : List Bool := z.cps.toList.map fun c => decide (c ∈ letters.cps.toList)
def isWord : V → Bool
  | .str z => (decide ((1 : Int) ≤ (z.length : Int)) && decide ((z.length : Int) ≤ 8)) && (signs z).all id
  | _ => false
def strsL (K : PySem.W.Frag) (H : Hp) (a : Addr) (ns : List Str) : Prop := SqL K H a (ns.map V.str) ∨ SqT K H a (ns.map V.str)
def isOne (ns : List Str) : V → Bool
  | .str z => decide (z ∈ ns)
  | _ => false
theorem inV_strs (z : Str) : ∀ ns : List Str, inV (.str z) (ns.map V.str) = decide (z ∈ ns)
  | [] => rfl
  | n :: ns => by
    have ih := inV_strs z ns
    show (eqV (.str n) (.str z) || inV (.str z) (ns.map V.str)) = decide (z ∈ n :: ns)
    rw [ih]
    have e : eqV (.str n) (.str z) = decide (n = z) := by
      first | rfl | (show (n == z) = decide (n = z); rfl) | (simp [eqV])
    rw [e]
    by_cases h : n = z
    · subst h
      simp
    · have h' : ¬ z = n := fun q => h q.symm
      simp [h, h']
theorem flat_strsV (ys : List Str) : (ys.map V.str).all flatV = true := by
  rw [List.all_eq_true]
  intro x hx
  obtain ⟨y, _, rfl⟩ := List.mem_map.mp hx
  rfl
def unlike (ns : List Str) (xs : List V) : Bool := !decide ((ns.length : Int) < (xs.length : Int)) && (xs.all (isOne ns) && decide ((xs.filterMap strOf).Nodup))
theorem strs_back {ns : List Str} : ∀ {xs : List V}, xs.all (isOne ns) = true → xs = (xs.filterMap strOf).map V.str
  | [], _ => rfl
  | x :: xs, h => by
    rw [List.all_cons, Bool.and_eq_true] at h
    cases x with
    | str z => exact congrArg (V.str z :: ·) (strs_back h.2)
    | _ => exact absurd h.1 (by simp [isOne])
theorem pi_seqK {X : Cx} {K : PySem.W.Frag} {tg l : Expr} {tl : TE} (hK : X.K = K) (hl : PE X l tl) : PI X tg l (iSeq K tl) := by
  subst hK
  exact pi_seq hl
end Rt
end
section
set_option Elab.async false
set_option linter.all false
set_option maxRecDepth 100000
set_option maxHeartbeats 4000000
/-! sets made of a list or a tuple: the call taken apart from the loop that fills the set -/
namespace Rt
open PySem PySem.Spec PyProof.Rows
section
variable {prog : Program} {w : World} {A : Around} {E : Value → Shared → Prop} {s : Shared}
/-- the heap as the filling loop finds it: an empty set, behind it an iterator -/
def setAhead (w : World) (led : Bool) (h : Heap) (kind : String) (l : Addr) : Heap :=
  (h.push { cls := .type "set", dict := none, data := .set #[] 0 (.fresh 0 0 led) }).push { cls := .type kind, data := .fields #[.ref l, .int 0 0] }
abbrev eqG : Array GenState → Array GenState → Prop := fun a b => b = a
/-- what the loop has to do -/
def Fills (prog : Program) (w : World) (led : Bool) (s : Shared) (kind : String) (l : Addr) (T : Heap → Prop) (u : Nat) : Prop :=
  ∀ (B : Around) (R : Result → Shared → Prop), B.in1.handled = none → B.in1.units ≤ u →
    (∀ s', Moved [s.heap.objs.size, s.heap.objs.size + 1] eqG { s with heap := setAhead w led s.heap kind l } s' → T s'.heap → R (.ok (.ret .none)) s') →
    codeAny (model prog w) B (.builtin "set.update.loop" ⟨[.ref s.heap.objs.size, .ref (s.heap.objs.size + 1)], []⟩) R { s with heap := setAhead w led s.heap kind l }
theorem led_new (a : Value) {Z : Value → Shared → Prop} (k : ∀ led : Bool, led = (!w.params.followText "set-order") → Z (.ref s.heap.objs.size) { s with heap := s.heap.push { cls := .type "set", dict := none, data := .set #[] 0 (.fresh 0 0 led) } }) :
    codeAny (model prog w) A (.call (.builtin "set.__new__") ⟨[.type "set", a], []⟩) (wants Z E) s := L2.code_set_led1 a (k _ rfl)

set_option maxHeartbeats 3200000 in
theorem set_list {l : Addr} {items : Array Value} {T : Heap → Prop} {Q : Value → Shared → Prop} (hh : A.handled = none) (src : s.heap.IsList l items)
    (F0 : ∀ led : Bool, led = (!w.params.followText "set-order") → Fills prog w led s "list_iterator" l T (A.units + 3))
    (fin : ∀ (h' : Heap) (tk : Nat), T h' → (∀ b o, s.heap.get? b = some o → h'.get? b = some o) → Q (.ref s.heap.objs.size) { s with heap := h', toks := tk }) :
    wpAny (model prog w) A (call (.type "set") [.ref l]) Q E s := by
  have g1 := PySem.F.called_set.made
  have g2 := PySem.F.called_set.sub
  have g3 := PySem.F.called_set.notType
  have g4 := PySem.F.called_set.canCreate
  have g5 := PySem.F.typeCall_set_1 (.ref l)
  obtain ⟨g6, g7, g8⟩ := PySem.F.called_set.mro
  apply wpAny_call
  apply codeAny_of_tree
  show wpAny _ _ (callAny (.type "set") _) _ _ _
  apply wpAny_pure
  refine ⟨Code.quiet_builtin _ (by decide +kernel), ?_⟩
  apply codeAny_builtin PySem.F.entry_type_call
  rw [Around.under_plain (weight_type_call_type "set" [.ref l] []) rfl]
  repeat (any_goals (first | assumption | wp_step))

  apply codeAny_mono (led_new (.ref l) (E := E) (Z := fun x t => ∃ led : Bool, led = (!w.params.followText "set-order") ∧ x = .ref s.heap.objs.size ∧ t = { s with heap := s.heap.push { cls := .type "set", dict := none, data := .set #[] 0 (.fresh 0 0 led) } }) fun led e => ⟨led, e, rfl, rfl⟩)
  rintro r s₁ made
  rcases r with _ | fl
  · exact made
  rcases fl with _ | _ | _ | x
  any_goals (first | exact made.elim | skip)
  obtain ⟨led, eled, rfl, rfl⟩ := made
  generalize eO : ({ cls := .type "set", dict := none, data := .set #[] 0 (.fresh 0 0 led) } : Obj) = O at *
  have atS : (s.heap.push O).get? s.heap.objs.size = some O := Heap.get?_push_size _ (by subst eO; rfl)
  have tyS : Shared.TypeIs { s with heap := s.heap.push O } (.ref s.heap.objs.size) "set" := ⟨_, atS, by subst eO; rfl⟩
  have g9 := PySem.F.called_set.init.lookup
  have g10 := PySem.F.called_set.init.bind (.ref s.heap.objs.size)
  repeat (any_goals (first | assumption | wp_step))

  apply codeAny_mono (codeAny_call_builtin (R := wants (fun r t => r = .none ∧ ∃ h' tk, t = { s with heap := h', toks := tk } ∧ T h' ∧ (∀ b o, s.heap.get? b = some o → h'.get? b = some o)) E) PySem.F.called_set.init.plain PySem.F.entry_set_init (check_set_init_1 tyS ?_))
  · rintro r s₂ done
    rcases r with _ | fl
    · exact done
    rcases fl with _ | _ | _ | x
    any_goals (first | exact done.elim | skip)
    obtain ⟨rfl, h', tk, rfl, t1, t2⟩ := done
    repeat (any_goals (first | assumption | wp_step))
    exact fin _ _ t1 t2
  · obtain ⟨ob, ol, oc, cnt, od⟩ := src
    obtain ⟨c0, c1, c2, c3⟩ := ob
    simp only at oc od
    subst oc od
    have keep : (s.heap.push O).get? l = some { cls := .type "list", dict := c1, data := .seq items cnt, slots := c3 } := Heap.get?_push_of_some _ ol
    have k1 := PySem.F.sub_list_set
    have k2 := PySem.F.sub_list_frozenset
    have k3 : (Value.type "list" == Value.type "dict") = false := by decide
    have inner : (s.heap.push O).IsList l items := ⟨_, keep, rfl, cnt, rfl⟩
    subst eO
    unfold Builtin.«set.__init__» noKeywords Builtin.Frozenset.updateFrom
    generalize ePI : pyIter = PI
    wp_walk
    subst ePI
    apply wpAny_pyIter_list inner
    apply wpAny_bind
    apply wpAny_runValue
    have small : l < s.heap.objs.size := Heap.lt_size ol
    have calm : A.in1.in1.in1.handled = none := by simp [hh]
    have two : (s.heap.push { cls := .type "set", dict := none, data := .set #[] 0 (.fresh 0 0 led) }).objs.size = s.heap.objs.size + 1 := Heap.size_push ..
    have run := F0 led eled
    unfold Fills setAhead at run
    rw [two]
    apply run _ _ calm (Nat.le_refl _)
    intro s' mv tT
    obtain ⟨hp, gs, dr, tk, os⟩ := s'
    have e1 : gs = s.gens := mv.gens
    have e2 : dr = s.drawn := mv.drawn
    have e3 : os = s.os := mv.os
    subst e1 e2 e3
    show wpAny _ _ _ _ _ _
    apply wpAny_pure
    show wpAny _ _ (ret Value.none) _ _ _
    refine wpAny_pure ⟨rfl, hp, tk, rfl, tT, fun b o hb => mv.heap b o ?_ (Heap.get?_push_of_some _ (Heap.get?_push_of_some _ hb))⟩
    have lt := Heap.lt_size hb
    simp only [List.mem_cons, List.not_mem_nil, or_false, not_or]
    exact ⟨Nat.ne_of_lt lt, Nat.ne_of_lt (Nat.lt_succ_of_lt lt)⟩

set_option maxHeartbeats 3200000 in
theorem set_tuple {l : Addr} {items : Array Value} {T : Heap → Prop} {Q : Value → Shared → Prop} (hh : A.handled = none) (src : s.heap.IsTuple l items)
    (F0 : ∀ led : Bool, led = (!w.params.followText "set-order") → Fills prog w led s "tuple_iterator" l T (A.units + 3))
    (fin : ∀ (h' : Heap) (tk : Nat), T h' → (∀ b o, s.heap.get? b = some o → h'.get? b = some o) → Q (.ref s.heap.objs.size) { s with heap := h', toks := tk }) :
    wpAny (model prog w) A (call (.type "set") [.ref l]) Q E s := by
  have g1 := PySem.F.called_set.made
  have g2 := PySem.F.called_set.sub
  have g3 := PySem.F.called_set.notType
  have g4 := PySem.F.called_set.canCreate
  have g5 := PySem.F.typeCall_set_1 (.ref l)
  obtain ⟨g6, g7, g8⟩ := PySem.F.called_set.mro
  apply wpAny_call
  apply codeAny_of_tree
  show wpAny _ _ (callAny (.type "set") _) _ _ _
  apply wpAny_pure
  refine ⟨Code.quiet_builtin _ (by decide +kernel), ?_⟩
  apply codeAny_builtin PySem.F.entry_type_call
  rw [Around.under_plain (weight_type_call_type "set" [.ref l] []) rfl]
  repeat (any_goals (first | assumption | wp_step))

  apply codeAny_mono (led_new (.ref l) (E := E) (Z := fun x t => ∃ led : Bool, led = (!w.params.followText "set-order") ∧ x = .ref s.heap.objs.size ∧ t = { s with heap := s.heap.push { cls := .type "set", dict := none, data := .set #[] 0 (.fresh 0 0 led) } }) fun led e => ⟨led, e, rfl, rfl⟩)
  rintro r s₁ made
  rcases r with _ | fl
  · exact made
  rcases fl with _ | _ | _ | x
  any_goals (first | exact made.elim | skip)
  obtain ⟨led, eled, rfl, rfl⟩ := made
  generalize eO : ({ cls := .type "set", dict := none, data := .set #[] 0 (.fresh 0 0 led) } : Obj) = O at *
  have atS : (s.heap.push O).get? s.heap.objs.size = some O := Heap.get?_push_size _ (by subst eO; rfl)
  have tyS : Shared.TypeIs { s with heap := s.heap.push O } (.ref s.heap.objs.size) "set" := ⟨_, atS, by subst eO; rfl⟩
  have g9 := PySem.F.called_set.init.lookup
  have g10 := PySem.F.called_set.init.bind (.ref s.heap.objs.size)
  repeat (any_goals (first | assumption | wp_step))

  apply codeAny_mono (codeAny_call_builtin (R := wants (fun r t => r = .none ∧ ∃ h' tk, t = { s with heap := h', toks := tk } ∧ T h' ∧ (∀ b o, s.heap.get? b = some o → h'.get? b = some o)) E) PySem.F.called_set.init.plain PySem.F.entry_set_init (check_set_init_1 tyS ?_))
  · rintro r s₂ done
    rcases r with _ | fl
    · exact done
    rcases fl with _ | _ | _ | x
    any_goals (first | exact done.elim | skip)
    obtain ⟨rfl, h', tk, rfl, t1, t2⟩ := done
    repeat (any_goals (first | assumption | wp_step))
    exact fin _ _ t1 t2
  · obtain ⟨ob, ol, oc, cnt, od⟩ := src
    obtain ⟨c0, c1, c2, c3⟩ := ob
    simp only at oc od
    subst oc od
    have keep : (s.heap.push O).get? l = some { cls := .type "tuple", dict := c1, data := .seq items cnt, slots := c3 } := Heap.get?_push_of_some _ ol
    have k1 := PySem.F.sub_tuple_set
    have k2 := PySem.F.sub_tuple_frozenset
    have k3 : (Value.type "tuple" == Value.type "dict") = false := by decide
    have inner : (s.heap.push O).IsTuple l items := ⟨_, keep, rfl, cnt, rfl⟩
    subst eO
    unfold Builtin.«set.__init__» noKeywords Builtin.Frozenset.updateFrom
    generalize ePI : pyIter = PI
    wp_walk
    subst ePI
    apply wpAny_pyIter_tuple inner
    apply wpAny_bind
    apply wpAny_runValue
    have small : l < s.heap.objs.size := Heap.lt_size ol
    have calm : A.in1.in1.in1.handled = none := by simp [hh]
    have two : (s.heap.push { cls := .type "set", dict := none, data := .set #[] 0 (.fresh 0 0 led) }).objs.size = s.heap.objs.size + 1 := Heap.size_push ..
    have run := F0 led eled
    unfold Fills setAhead at run
    rw [two]
    apply run _ _ calm (Nat.le_refl _)
    intro s' mv tT
    obtain ⟨hp, gs, dr, tk, os⟩ := s'
    have e1 : gs = s.gens := mv.gens
    have e2 : dr = s.drawn := mv.drawn
    have e3 : os = s.os := mv.os
    subst e1 e2 e3
    show wpAny _ _ _ _ _ _
    apply wpAny_pure
    show wpAny _ _ (ret Value.none) _ _ _
    refine wpAny_pure ⟨rfl, hp, tk, rfl, tT, fun b o hb => mv.heap b o ?_ (Heap.get?_push_of_some _ (Heap.get?_push_of_some _ hb))⟩
    have lt := Heap.lt_size hb
    simp only [List.mem_cons, List.not_mem_nil, or_false, not_or]
    exact ⟨Nat.ne_of_lt lt, Nat.ne_of_lt (Nat.lt_succ_of_lt lt)⟩
end
end Rt
end
section
set_option Elab.async false
set_option linter.all false
set_option maxRecDepth 100000
set_option maxHeartbeats 4000000
/-! set(xs) of ints and texts: which are in, how many there are; sorted(set(xs)) of ints -/
namespace Rt
open PySem PySem.Spec PyProof.Rows
/-! ### how many unlike ones -/
section
variable {κ : Type} [DecidableEq κ]
/-- of the list turned about -/
def cntR : List κ → Nat
  | [] => 0
  | x :: r => if x ∈ r then cntR r else cntR r + 1
def cnt (l : List κ) : Nat := cntR l.reverse
theorem cnt_snoc (l : List κ) (x : κ) : cnt (l ++ [x]) = if x ∈ l then cnt l else cnt l + 1 := by
  unfold cnt
  rw [List.reverse_append]
  show (if x ∈ l.reverse then cntR l.reverse else cntR l.reverse + 1) = _
  simp only [List.mem_reverse]
theorem cntR_le : ∀ l : List κ, cntR l ≤ l.length
  | [] => Nat.le_refl _
  | x :: r => by
    have := cntR_le r
    show (if x ∈ r then cntR r else cntR r + 1) ≤ r.length + 1
    split <;> omega
theorem cnt_le (l : List κ) : cnt l ≤ l.length := by
  have := cntR_le l.reverse
  rw [List.length_reverse] at this
  exact this
theorem cntR_nd : ∀ l : List κ, cntR l = l.length ↔ l.Nodup
  | [] => by simp [cntR]
  | x :: r => by
    have ih := cntR_nd r
    have le := cntR_le r
    show (if x ∈ r then cntR r else cntR r + 1) = r.length + 1 ↔ _
    rw [List.nodup_cons, ← ih]
    by_cases h : x ∈ r
    · rw [if_pos h]
      constructor
      · intro e
        omega
      · intro e
        exact absurd h e.1
    · rw [if_neg h]
      constructor
      · intro e
        exact ⟨h, by omega⟩
      · intro e
        omega
theorem cnt_nd (l : List κ) : cnt l = l.length ↔ l.Nodup := by
  unfold cnt
  rw [← List.length_reverse, cntR_nd]
  exact (List.reverse_perm l).nodup_iff
end
/-! ### the filling loop, for any kind of key that is carried by its value -/
section
variable {prog : Program} {w : World} {A : Around} {R : Result → Shared → Prop} {I : Addr} {fp wr : List Addr} {G : Array GenState → Array GenState → Prop} {n : Nat} {P : Nat → Value → Prop} {St : Nat → Shared → Prop}
variable {κ : Type} [DecidableEq κ]
theorem setOf_same {knd : KeyKind prog w κ} {h h' : Heap} {a : Addr} {S : κ → Bool} {m : Nat} (x : h.SetOf knd a S m) (k : ∀ o, h.get? a = some o → h'.get? a = some o) : h'.SetOf knd a S m :=
  match x with
  | ⟨o, es, ep, t, ho, r⟩ => ⟨o, es, ep, t, k o ho, r⟩
theorem fill_keys (knd : KeyKind prog w κ) (walk : WalksS prog w A.in1 I fp wr G n P St) (S : Addr) (out : S ∉ fp) (xs : List κ) (hn : xs.length = n) (room : n + 1 < scanBound)
    (key : ∀ i v, P i v → ∃ x, xs[i]? = some x ∧ knd.is x v = true ∧ v.scannable = true) :
    ∀ (d i : Nat) (s : Shared), i + d = n → St i s → s.heap.SetOf knd S (fun j => decide (j ∈ xs.take i)) (cnt (xs.take i)) →
      (∀ s', Moved (S :: wr) G s s' → s'.heap.SetOf knd S (fun j => decide (j ∈ xs)) (cnt xs) → R (.ok (.ret .none)) s') →
      codeAny (model prog w) A (.builtin "set.update.loop" ⟨[.ref S, .ref I], []⟩) R s
  | 0, i, s, e, st, here, fin => by
    obtain rfl : i = n := by omega
    have full : xs.take i = xs := List.take_of_length_le (by omega)
    rw [full] at here
    apply codeAny_builtin PyProof.Rows.F.entry_set_update_loop
    rw [Around.under_plainId PyProof.Rows.F.plain_set_update_loop _]
    show wpAny _ A.in1 (pyNext (.ref I) >>= _) _ _ s
    apply wpAny_bind
    apply walk.done s _ _ st
    intro s' mv
    exact wpAny_pure (fin s' (mv.mono fun b hb => List.mem_cons_of_mem _ hb) (setOf_same here fun o ho => mv.heap S o (fun q => out (walk.sub _ q)) ho))
  | d + 1, i, s, e, st, here, fin => by
    apply codeAny_builtin PyProof.Rows.F.entry_set_update_loop
    rw [Around.under_plainId PyProof.Rows.F.plain_set_update_loop _]
    show wpAny _ A.in1 (pyNext (.ref I) >>= _) _ _ s
    apply wpAny_bind
    apply walk.item i s _ _ (by omega) st
    intro v s' pv st' mv
    obtain ⟨x, hx, isx, scx⟩ := key i v pv
    have here' := setOf_same (h' := s'.heap) here fun o ho => mv.heap S o (fun q => out (walk.sub _ q)) ho
    show wpAny _ A.in1 (holding [v] (setAdd S v) >>= _) _ _ s'
    apply wpAny_bind
    apply wpAny_holding
    unfold setAdd
    apply wpAny_holding
    apply wpAny_bind
    refine knd.pyHash isx ?_
    have few : cnt (xs.take i) + 1 < scanBound := by
      have h1 := cnt_le (xs.take i)
      have h2 : (xs.take i).length ≤ xs.length := List.length_take_le' _ _
      omega
    refine wpAny_setAddHashed_of (knd := knd) (s := { s' with toks := s'.toks + 1 }) isx scx here' few fun h' but now => ?_
    have step : xs.take (i + 1) = xs.take i ++ [x] := take_one hx
    have now' : h'.SetOf knd S (fun j => decide (j ∈ xs.take (i + 1))) (cnt (xs.take (i + 1))) := by
      have e1 : (fun j => decide (j ∈ xs.take i) || decide (j = x)) = fun j => decide (j ∈ xs.take (i + 1)) := by
        funext j
        rw [step]
        by_cases a : j ∈ xs.take i <;> by_cases b : j = x <;> simp [a, b]
      have e2 : (if decide (x ∈ xs.take i) = true then cnt (xs.take i) else cnt (xs.take i) + 1) = cnt (xs.take (i + 1)) := by
        rw [step, cnt_snoc]
        by_cases a : x ∈ xs.take i <;> simp [a]
      rw [← e1, ← e2]
      exact now
    refine wpAny_pure ⟨plainId_quiet PyProof.Rows.F.plain_set_update_loop _, fill_keys knd walk S out xs hn room key d (i + 1) _ (by omega) (walk.frame _ s' _ _ st' (Nat.le_succ _) fun b hb o ho => ?_) now' fun s'' mv2 last => fin s'' ?_ last⟩
    · rw [but.2 b (fun q : b = S => out (q ▸ hb))]
      exact ho
    · refine Moved.trans walk.gtrans ((mv.mono fun b hb => List.mem_cons_of_mem _ hb).then_heap (Nat.le_succ _) fun b o hb ho => ?_) mv2
      rw [but.2 b (fun q : b = S => hb (q ▸ List.mem_cons_self))]
      exact ho
end
end Rt
end
section
set_option Elab.async false
set_option linter.all false
set_option maxRecDepth 100000
set_option maxHeartbeats 4000000
/-! set(xs) of a few tuples of keys (ints, texts): how many unlike ones there are -/
namespace Rt
open PySem PySem.Spec PyProof.Rows
section
variable {P : Program} {w : World} {κ : Type} [DecidableEq κ]
/-- keys that the small questions of a search answer by themselves -/
structure Mild (knd : KeyKind P w κ) : Prop where
  cls : ∀ k v n, knd.is k v = true → ofAClassStatement n v = pure false
  val : ∀ k v n, knd.is k v = true → ∃ r, hashByValue n v = pure r
variable {knd : KeyKind P w κ}
theorem mixMild : Mild (L2.mixKind P w) where
  cls := fun k v n h => by
    rcases L2.keyIs_shape h with ⟨i, t, rfl, rfl⟩ | ⟨x, t, rfl, rfl⟩ <;> cases n <;> rfl
  val := fun k v n h => by
    rcases L2.keyIs_shape h with ⟨i, t, rfl, rfl⟩ | ⟨x, t, rfl, rfl⟩ <;> cases n <;> exact ⟨_, rfl⟩
theorem items_each {ks : List κ} {vs : List Value} (h : ItemsAre knd ks vs) : ∀ v ∈ vs, ∃ k, knd.is k v = true := by
  induction h with
  | nil => intro v hv; cases hv
  | @cons k0 u ks us one _ more =>
    intro v hv
    cases List.mem_cons.mp hv with
    | inl e => exact ⟨k0, e ▸ one⟩
    | inr m => exact more v m
variable {A : Around} {E : Value → Shared → Prop} {s : Shared}
/-- a loop over a tuple's items that asks each a question with a settled answer -/
theorem ask_each {α : Type} {items : Array Value} {f : Value → α → Sem (ForInStep α)} {z : α} {Q : α → Shared → Prop} (h : ∀ v ∈ items.toList, f v z = pure (.yield z)) (q : Q z s) : wpAny (model P w) A (forIn items z f) Q E s := by
  rw [← Array.forIn_toList]
  refine wpAny_forIn_list _ (fun left r t => r = z ∧ t = s ∧ ∀ v ∈ left, f v z = pure (.yield z)) _ ?_ ?_ _ _ ⟨rfl, rfl, h⟩
  · rintro v left r t ⟨rfl, rfl, all⟩
    rw [all v List.mem_cons_self]
    exact wpAny_pure ⟨rfl, rfl, fun u hu => all u (List.mem_cons_of_mem _ hu)⟩
  · rintro r t ⟨rfl, rfl, _⟩
    exact q
theorem ask_some {α : Type} {items : Array Value} {f : Value → α → Sem (ForInStep α)} {z : α} {D : α → Prop} {Q : α → Shared → Prop} (h : ∀ v ∈ items.toList, f v z = pure (.yield z) ∨ ∃ d, D d ∧ f v z = pure (.done d)) (q : Q z s) (qd : ∀ d, D d → Q d s) :
    wpAny (model P w) A (forIn items z f) Q E s := by
  rw [← Array.forIn_toList]
  refine wpAny_forIn_list _ (fun left r t => r = z ∧ t = s ∧ ∀ v ∈ left, f v z = pure (.yield z) ∨ ∃ d, D d ∧ f v z = pure (.done d)) _ ?_ ?_ _ _ ⟨rfl, rfl, h⟩
  · rintro v left r t ⟨rfl, rfl, all⟩
    rcases all v List.mem_cons_self with e | ⟨d, hd, e⟩
    · rw [e]
      exact wpAny_pure ⟨rfl, rfl, fun u hu => all u (List.mem_cons_of_mem _ hu)⟩
    · rw [e]
      exact wpAny_pure (qd d hd)
  · rintro r t ⟨rfl, rfl, _⟩
    exact q
theorem no_class (M : Mild knd) {k : List κ} {b : Addr} {Q : Bool → Shared → Prop} (t : IsTupleKey knd s.heap k b) (q : Q false s) : wpAny (model P w) A (ofAClassStatement 8 (.ref b)) Q E s := by
  have ty := t.typeIs
  obtain ⟨o, items, n, ho, _, hd, hi⟩ := t
  unfold ofAClassStatement
  apply wpAny_bind
  apply wpAny_typeOf ty
  have yes : (("tuple" : String) == "tuple") = true := by decide
  simp only [yes, if_true, Bool.not_true, Bool.false_eq_true, if_false]
  try (apply wpAny_bind; apply wpAny_pure)
  try simp only [Bool.not_true, Bool.false_eq_true, if_false]
  show wpAny _ _ (seqItems? (.ref b) >>= _) _ _ s
  apply wpAny_bind
  apply wpAny_seqItems ho hd
  dsimp only
  apply wpAny_bind
  refine ask_each (fun v hv => ?_) ?_
  · obtain ⟨k', hk'⟩ := items_each hi v hv
    simp only [M.cls k' v _ hk', pure_bind, Bool.false_eq_true, if_false]
  · exact wpAny_pure q
theorem by_value (M : Mild knd) {k : List κ} {b : Addr} {Q : Bool → Shared → Prop} (t : IsTupleKey knd s.heap k b) (q : ∀ r, Q r s) : wpAny (model P w) A (hashByValue 8 (.ref b)) Q E s := by
  have ty := t.typeIs
  obtain ⟨o, items, n, ho, _, hd, hi⟩ := t
  unfold hashByValue
  apply wpAny_bind
  apply wpAny_specialOf ty F.slot_tuple_hash.lookup
  show wpAny _ _ (seqItems? (.ref b) >>= _) _ _ s
  apply wpAny_bind
  apply wpAny_seqItems ho hd
  apply wpAny_bind
  refine ask_some (D := fun d => ∃ r, d.1 = some r) (fun v hv => ?_) ?_ (fun d hd => ?_)
  · obtain ⟨k', hk'⟩ := items_each hi v hv
    obtain ⟨r, e⟩ := M.val k' v 7 hk'
    rw [e]
    cases r with
    | true => exact .inl rfl
    | false => exact .inr ⟨_, ⟨false, rfl⟩, rfl⟩
  · exact wpAny_pure (q true)
  · obtain ⟨d1, d2⟩ := d
    obtain ⟨r, e⟩ := hd
    simp only at e
    subst e
    exact wpAny_pure (q r)

/-! ### the set -/
abbrev th (knd : KeyKind P w κ) (k : List κ) : Int := tupleKeyHash knd k
def rws (knd : KeyKind P w κ) (L : List (Addr × List κ)) : List (Int × Value) := L.map fun p => (th knd p.2, Value.ref p.1)
/-- up to four tuples in the least table -/
structure TSet (knd : KeyKind P w κ) (h : Heap) (a : Addr) (L : List (Addr × List κ)) (es : Array (Int × Value)) (ep : Nat) (t : SetTable) : Prop where
  ob : ∃ o, h.get? a = some o ∧ o.ExactSet ∧ o.data = .set es ep t
  rw_ : es.toList = rws knd L
  tb : L2.TabOk t (L.map fun p => th knd p.2)
  one : (L.map (·.2)).Nodup
  at_ : ∀ p ∈ L, IsTupleKey knd h p.2 p.1
  mask : t.mask = 7
  few : L.length ≤ 4
variable {a : Addr} {L : List (Addr × List κ)} {es : Array (Int × Value)} {ep : Nat} {t : SetTable}
theorem TSet.size {h : Heap} (R : TSet knd h a L es ep t) : es.size = L.length := by
  have q := congrArg List.length R.rw_
  simpa [rws] using q
theorem TSet.fits {h : Heap} (R : TSet knd h a L es ep t) : t.fits es.size = true := by
  have z := R.tb.sz
  have few := R.few
  have m := R.mask
  rw [List.length_map] at z
  unfold SetTable.fits SetTable.fill
  rw [R.tb.dm, Bool.and_eq_true, beq_iff_eq, decide_eq_true_eq, R.size]
  exact ⟨z, by rw [z, m]; simp; omega⟩
theorem TSet.row {h : Heap} (R : TSet knd h a L es ep t) {i : Nat} {p : Addr × List κ} (e : L[i]? = some p) : es[i]? = some (th knd p.2, Value.ref p.1) := by
  rw [← Array.getElem?_toList, R.rw_, rws, List.getElem?_map, e]
  rfl
/-- the way's places -/
abbrev stp (m : Nat) (h : Int) (c : Nat) : SetTable.Probe := L2.nth m (L2.runAt m (SetTable.bits h % (m + 1)) (SetTable.bits h)) c
theorem nth_clean (m : Nat) : ∀ (n : Nat) (p : SetTable.Probe), p.dummy = none → (L2.nth m p n).dummy = none
  | 0, p, e => e
  | n + 1, p, e => nth_clean m n (L2.adv m p) (by unfold L2.adv; split <;> exact e)
theorem stp_more (m : Nat) (h : Int) (c q : Nat) : L2.nth m (stp m h c) q = stp m h (c + q) := (L2.nth_add m c _ q).symm
theorem stp_j (m : Nat) (h : Int) (c q : Nat) : (L2.nth m (stp m h c) q).j = L2.way m h (c + q) := congrArg SetTable.Probe.j (stp_more m h c q)
/-- a search among them shows nothing of the table -/
theorem quiet_search (M : Mild knd) {k : List κ} {b : Addr} {Q : Bool → Shared → Prop} (hk : IsTupleKey knd s.heap k b) {ys : List Value} (hy : ∀ y ∈ ys, ∃ k' c, y = Value.ref c ∧ IsTupleKey knd s.heap k' c) (q : Q false s) :
    wpAny (model P w) A (searchCouldBeSeen (.ref b) ys) Q E s := by
  unfold searchCouldBeSeen
  apply wpAny_bind
  refine wpAny_forIn_list _ (fun left r t => r.1 = none ∧ t = s ∧ ∀ y ∈ left, ∃ k' c, y = Value.ref c ∧ IsTupleKey knd s.heap k' c) _ ?_ ?_ _ _ ⟨rfl, rfl, hy⟩
  · rintro v left r t ⟨none_, rfl, all⟩
    obtain ⟨k', c, rfl, hc⟩ := all v List.mem_cons_self
    have others : ∀ y ∈ left, ∃ k' c, y = Value.ref c ∧ IsTupleKey knd t.heap k' c := fun u hu => all u (List.mem_cons_of_mem _ hu)
    dsimp only
    rcases Classical.em ((b == c || (carriedByValue (.ref b) && carriedByValue (.ref c))) = true) with plain | other
    · exact L2.wp_if_pos plain (wpAny_pure ⟨rfl, rfl, others⟩)
    · apply L2.wp_if_neg other
      apply wpAny_bind
      apply wpAny_eqIsQuiet_tuple hk
      simp only [Bool.not_true, Bool.false_eq_true, if_false]
      apply wpAny_bind
      apply wpAny_eqIsQuiet_tuple hc
      simp only [Bool.not_true, Bool.false_eq_true, if_false]
      apply wpAny_bind
      apply no_class M hk
      simp only [Bool.false_eq_true, if_false]
      apply wpAny_bind
      apply no_class M hc
      simp only [Bool.false_eq_true, if_false]
      exact wpAny_pure ⟨rfl, rfl, others⟩
  · rintro ⟨r1, r2⟩ t ⟨none_, rfl, _⟩
    simp only at none_
    subst none_
    exact wpAny_pure q
end
end Rt
end
section
set_option Elab.async false
set_option linter.all false
set_option maxRecDepth 100000
set_option maxHeartbeats 4000000
/-! the search of a tuple in the set, and its adding -/
namespace Rt
open PySem PySem.Spec PyProof.Rows
section
variable {P : Program} {w : World} {κ : Type} [DecidableEq κ] {knd : KeyKind P w κ} {A : Around} {E : Value → Shared → Prop} {s : Shared}
variable {a : Addr} {L : List (Addr × List κ)} {es : Array (Int × Value)} {ep : Nat} {t : SetTable}
/-- f turns are left, the c-th place of the way is the next one; K is the first empty one -/
theorem find_from (M : Mild knd) (R : TSet knd s.heap a L es ep t) {x : Addr} {k : List κ} (hx : IsTupleKey knd s.heap k x) (hu : A.units < cLine) {K : Nat} (kf : K < 10 * SetTable.turns t.mask)
    (gap : L2.way t.mask (th knd k) K ∉ t.place.toList) (full : ∀ c, c < K → L2.way t.mask (th knd k) c ∈ t.place.toList) {Q : SetFound → Shared → Prop}
    (yes : k ∈ L.map (·.2) → Q (.there none) s) (no : k ∉ L.map (·.2) → Q (.free (L2.way t.mask (th knd k) K) false) s) :
    ∀ (f c : Nat) (stand : Option SetTable.Probe), stand.getD (t.probeStart (th knd k)) = stp t.mask (th knd k) c → c ≤ K → K - c < f →
      (∀ (i : Nat) p, L[i]? = some p → p.2 = k → ∃ d, c ≤ d ∧ d < K ∧ t.place.toList[i]? = some (L2.way t.mask (th knd k) d)) →
      wpAny (model P w) A (setSearchFrom a (.ref x) (th knd k) true f stand) Q E s := by
  obtain ⟨o, ho, hex, hd⟩ := R.ob
  have fit := R.fits
  intro f
  induction f with
  | zero => intro c stand _ _ hf _; omega
  | succ f ih =>
    intro c stand hst hc hf here
    have hashAt : ∀ (i : Nat) p, L[i]? = some p → ((es[i]?.map (·.1)).getD 0) = th knd p.2 := fun i p hp => by rw [R.row hp]; rfl
    have look := L2.go_spec t R.tb.ris R.tb.dm (fun i => (es[i]?.map (·.1)).getD 0) (th knd k) (10 * SetTable.turns t.mask) (K - c) (stp t.mask (th knd k) c) (nth_clean _ c _ rfl) (by omega)
      (fun q hq => by rw [stp_j]; exact full _ (by omega)) (by rw [stp_j, show c + (K - c) = K by omega]; exact gap)
    have start : t.probe (fun i => (es[i]?.map (·.1)).getD 0) (th knd k) (stand.getD (t.probeStart (th knd k))) = SetTable.probe.go t (fun i => (es[i]?.map (·.1)).getD 0) (th knd k) (10 * SetTable.turns t.mask) (stp t.mask (th knd k) c) := by
      rw [hst]
      rfl
    rw [L2.setSearchFrom_succ]
    apply wpAny_bind
    apply wpAny_setState_of ho hd fit
    dsimp only
    have steady : ¬ t.gaveWay = true := by
      unfold SetTable.gaveWay
      rw [R.mask]
      decide
    apply L2.wp_if_neg steady
    try (apply wpAny_bind; apply wpAny_pure)
    rcases look with ⟨q, i, hq, hi, same, before, found⟩ | ⟨none_, found⟩
    · rw [start, found, stp_j]
      rw [stp_j] at hi
      dsimp only
      have il : i < L.length := by
        have h1 : i < t.place.toList.length := (List.getElem?_eq_some_iff.mp hi).1
        have h2 := R.tb.sz
        rw [List.length_map] at h2
        rw [Array.length_toList] at h1
        omega
      obtain ⟨p, hp⟩ : ∃ p, L[i]? = some p := ⟨_, List.getElem?_eq_getElem il⟩
      have pL : p ∈ L := List.mem_of_getElem? hp
      have on : wpAny (model P w) A (L2.searchRest a (.ref x) (th knd k) true f es t (L2.way t.mask (th knd k) (c + q)) i (L2.nth t.mask (stp t.mask (th knd k) c) (q + 1))) Q E s := by
        unfold L2.searchRest
        rw [R.row hp]
        dsimp only
        apply wpAny_bind
        apply wpAny_holding
        apply wpAny_eqBool_tuple hu (R.at_ p pL) hx
        apply wpAny_bind
        apply wpAny_setState_of ho hd fit
        dsimp only
        by_cases eq : p.2 = k
        · apply L2.wp_if_pos (by simp [eq])
          exact wpAny_pure (yes (List.mem_map.mpr ⟨p, pL, eq⟩))
        · apply L2.wp_if_neg (by simp [eq])
          try (apply wpAny_bind; apply wpAny_pure)
          rw [L2.sameMem]
          dsimp only
          have live : t.slot (L2.way t.mask (th knd k) (c + q)) = .live i := L2.slot_live R.tb.ris hi
          simp only [if_true, live, R.row hp]
          apply wpAny_bind
          apply wpAny_isSame_ref_self
          apply wpAny_bind
          apply wpAny_pure
          simp only [if_true]
          apply L2.wp_if_neg (by simp [eq])
          refine ih (c + (q + 1)) _ (stp_more _ _ _ _) (by omega) (by omega) fun j r hr er => ?_
          obtain ⟨d, d1, d2, d3⟩ := here j r hr er
          refine ⟨d, ?_, d2, d3⟩
          have cmp := Nat.lt_trichotomy d (c + q)
          rcases cmp with lt | same_ | gt
          · exact absurd ((hashAt j r hr).trans (congrArg (th knd) er)) (before (d - c) j (by omega) (by rw [stp_j, show c + (d - c) = d by omega]; exact d3))
          · rw [same_] at d3
            have other := L2.slot_live R.tb.ris d3
            rw [live] at other
            injection other with ij
            rw [← ij, hp] at hr
            exact absurd ((congrArg Prod.snd (Option.some.inj hr)).trans er) eq
          · omega
      rcases Classical.em (t.led = true) with led | unled
      · apply L2.wp_if_neg (by simp [led])
        try (apply wpAny_bind; apply wpAny_pure)
        exact on
      · apply L2.wp_if_pos (by simp [unled])
        apply wpAny_bind
        refine quiet_search M hx (fun y hy => ?_) ?_
        · obtain ⟨e, he, ey⟩ := List.mem_map.mp hy
          have he' : e ∈ es ∧ e.1 = th knd k := by simpa using he
          have hl : e ∈ es.toList := by simpa using he'.1
          rw [R.rw_] at hl
          obtain ⟨r, hr, er⟩ := List.mem_map.mp hl
          exact ⟨r.2, r.1, by rw [← ey, ← er], R.at_ r hr⟩
        · apply L2.wp_if_neg (by decide)
          try (apply wpAny_bind; apply wpAny_pure)
          exact on
    · rw [start, found, stp_j, show c + (K - c) = K by omega]
      dsimp only
      refine wpAny_pure (no fun hm => ?_)
      obtain ⟨r, hr, er⟩ := List.mem_map.mp hm
      obtain ⟨j, hj, ej⟩ := List.getElem_of_mem hr
      have hr' : L[j]? = some r := by rw [List.getElem?_eq_getElem hj, ej]
      obtain ⟨d, d1, d2, d3⟩ := here j r hr' er
      exact none_ (d - c) j (by omega) (by rw [stp_j, show c + (d - c) = d by omega]; exact d3) ((hashAt j r hr').trans (congrArg (th knd) er))
theorem find_it (M : Mild knd) (R : TSet knd s.heap a L es ep t) {x : Addr} {k : List κ} (hx : IsTupleKey knd s.heap k x) (hu : A.units < cLine) {Q : SetFound → Shared → Prop} (yes : k ∈ L.map (·.2) → Q (.there none) s)
    (no : ∀ K, k ∉ L.map (·.2) → L2.way t.mask (th knd k) K ∉ t.place.toList → (∀ c, c < K → L2.way t.mask (th knd k) c ∈ t.place.toList) → Q (.free (L2.way t.mask (th knd k) K) false) s) :
    wpAny (model P w) A (setSearch a (.ref x) (th knd k) true) Q E s := by
  have few := R.few
  obtain ⟨K, kf, gap, full⟩ := R.tb.first (by rw [List.length_map, R.mask]; omega) (th knd k)
  have small : K < 100000 := by
    have m := R.mask
    unfold SetTable.turns at kf
    rw [m] at kf
    omega
  unfold setSearch
  refine find_from M R hx hu kf gap full yes (fun n => no K n gap full) 100000 0 none rfl (Nat.zero_le _) (by omega) fun i p hp ep => ?_
  have ih : (L.map fun p => th knd p.2)[i]? = some (th knd k) := by rw [List.getElem?_map, hp, ← ep]; rfl
  have il : i < t.place.toList.length := by
    have h1 : i < L.length := (List.getElem?_eq_some_iff.mp hp).1
    have h2 := R.tb.sz
    rw [List.length_map] at h2
    rw [Array.length_toList]
    omega
  obtain ⟨d, d1, d2⟩ := R.tb.before gap ih (List.getElem?_eq_getElem il)
  exact ⟨d, Nat.zero_le _, d1, by rw [List.getElem?_eq_getElem il, d2]⟩

theorem tup_stays {h h' : Heap} {k : List κ} {b : Addr} {o : Obj} (hb : IsTupleKey knd h k b) (ho : h.get? a = some o) (hd : o.data = .set es ep t) (sb : Heap.SameBut a h h') : IsTupleKey knd h' k b := by
  obtain ⟨u, items, n, hu, hc, hdu, hi⟩ := hb
  refine ⟨u, items, n, (sb.2 b fun e => ?_).trans hu, hc, hdu, hi⟩
  rw [e, ho] at hu
  rw [← Option.some.inj hu, hd] at hdu
  cases hdu
theorem mid_perm {α : Type} (L : List α) (p : Nat) (x : α) : (L.take p ++ x :: L.drop p).Perm (x :: L) := by
  refine List.perm_middle.trans ?_
  rw [List.take_append_drop]
/-- a tuple is added: it was there, or it is there now -/
theorem add_it (M : Mild knd) (R : TSet knd s.heap a L es ep t) {x : Addr} {k : List κ} (hx : IsTupleKey knd s.heap k x) (hu : A.units < cLine) (few : L.length + 1 ≤ 4) {Q : Bool → Shared → Prop}
    (fin : ∀ r h' L' es' ep' t', Heap.SameBut a s.heap h' → TSet knd h' a L' es' ep' t' → (k ∈ L.map (·.2) → L' = L) → (k ∉ L.map (·.2) → L'.Perm ((x, k) :: L)) → Q r { s with heap := h' }) :
    wpAny (model P w) A (setAddHashed a (.ref x) (th knd k)) Q E s := by
  obtain ⟨o, ho, hex, hd⟩ := R.ob
  have sz := R.size
  unfold setAddHashed
  apply wpAny_holding
  rw [show (100000 : Nat) = 99999 + 1 from rfl, L2.setAddHashedIn_succ]
  apply wpAny_bind
  apply wpAny_setState_of ho hd R.fits
  dsimp only
  apply L2.wp_if_neg (by simp [byScan, Value.scannable])
  try (apply wpAny_bind; apply wpAny_pure)
  apply wpAny_bind
  refine find_it M R hx hu (fun hm => ?_) fun K hm gap full => ?_
  · dsimp only
    exact wpAny_pure (fin false s.heap L es ep t (Heap.SameBut.refl a s.heap) R (fun _ => rfl) fun z => absurd hm z)
  · dsimp only
    apply wpAny_bind
    apply wpAny_setState_of ho hd R.fits
    dsimp only
    obtain ⟨q1, q2, q3, q4, q5, q6, q7, q8, q9⟩ := R.tb.put gap full
    generalize t.put (L2.way t.mask (th knd k) K) = pt at q1 q3 q4 q5 q6 q7 q8 q9 ⊢
    obtain ⟨t1, p⟩ := pt
    dsimp only at q1 q3 q4 q5 q6 q7 q8 q9 ⊢
    subst q1
    generalize SetTable.below t.place (L2.way t.mask (th knd k) K) = p at q2 q3 ⊢
    have mask1 : t1.mask = 7 := q4.trans R.mask
    have rows1 : (SetTable.insertAt es p (th knd k, Value.ref x)).toList = rws knd (L.take p ++ (x, k) :: L.drop p) := by
      rw [SetTable.toList_insertAt, R.rw_]
      simp [rws, List.map_take, List.map_drop]
    have pm := mid_perm L p (x, k)
    have hs1 : (L.take p ++ (x, k) :: L.drop p).map (fun p => th knd p.2) = (L.map fun p => th knd p.2).take p ++ th knd k :: (L.map fun p => th knd p.2).drop p := by simp [List.map_take, List.map_drop]
    rw [← hs1] at q3
    have one1 : ((L.take p ++ (x, k) :: L.drop p).map (·.2)).Nodup := (pm.map (·.2)).nodup_iff.mpr (List.nodup_cons.mpr ⟨hm, R.one⟩)
    have len1 : (L.take p ++ (x, k) :: L.drop p).length = L.length + 1 := pm.length_eq
    have es1 : (SetTable.insertAt es p (th knd k, Value.ref x)).size = L.length + 1 := by
      have q := congrArg List.length rows1
      rw [Array.length_toList] at q
      rw [q, rws, List.length_map, len1]
    generalize SetTable.insertAt es p (th knd k, Value.ref x) = E1 at rows1 es1 ⊢
    generalize L.take p ++ (x, k) :: L.drop p = L1 at pm len1 q3 one1 rows1
    -- what is stored in the end, for either answer of by-value
    have last : ∀ r : Bool, wpAny (model P w) A (do
        storeSet a E1 (if r = true then t1 else { t1 with plain := false })
        if (!false && (if r = true then t1 else { t1 with plain := false }).tooFull) = true then do { setRelay a (SetTable.grown (es.size + 1)); pure true } else pure true) Q E s := fun r => by
      have nf : (if r then t1 else { t1 with plain := false }).tooFull = false := by
        have z : (if r then t1 else { t1 with plain := false }).tooFull = t1.tooFull := by cases r <;> rfl
        rw [z]
        unfold SetTable.tooFull
        rw [q9, mask1, List.length_map]
        exact decide_eq_false (by omega)
      have tb1 : L2.TabOk (if r then t1 else { t1 with plain := false }) (L1.map fun p => th knd p.2) := by
        cases r with
        | true => exact q3
        | false => exact ⟨q3.ris, q3.dm, q3.sz, q3.mok, q3.bd, q3.reach⟩
      have mk1 : (if r then t1 else { t1 with plain := false }).mask = 7 := by cases r <;> exact mask1
      generalize (if r then t1 else { t1 with plain := false }) = t2 at nf tb1 mk1 ⊢
      apply wpAny_bind
      refine wpAny_storeSet_of ho hd ?_ (by rw [es1, sizeLine_eq]; omega)
      have sb : Heap.SameBut a s.heap (s.heap.update a (Obj.putSet E1 t2)) := Heap.SameBut.update ..
      have at1 := L2.store_at (es' := E1) (t' := t2) ho hd
      generalize s.heap.update a (Obj.putSet E1 t2) = h1 at sb at1 ⊢
      rw [nf]
      have tups : ∀ p ∈ L1, IsTupleKey knd h1 p.2 p.1 := fun r hr => by
        rcases List.mem_cons.mp (pm.mem_iff.mp hr) with e | hr
        · rw [e]
          exact tup_stays hx ho hd sb
        · exact tup_stays (R.at_ r hr) ho hd sb
      have done := fin true h1 L1 E1 (ep + 1) t2 sb ⟨⟨_, at1, ⟨hex.1, hex.2.1, hex.2.2⟩, rfl⟩, rows1, tb1, one1, tups, mk1, by rw [len1]; exact few⟩ (fun z => absurd z hm) fun _ => pm
      simp only [Bool.not_false, Bool.and_false, Bool.false_eq_true, if_false]
      try (apply wpAny_bind; apply wpAny_pure)
      exact wpAny_pure done
    rcases Classical.em (t1.plain = true) with pl | pl
    · first
        | exact L2.wp_if_pos pl (wpAny_bind (by_value M hx fun r => last r))
        | (apply wpAny_bind; apply L2.wp_if_pos pl; exact by_value M hx fun r => last r)
    · first
        | exact L2.wp_if_neg pl (by first | exact last true | exact wpAny_bind (wpAny_pure (last true)))
        | (apply wpAny_bind; apply L2.wp_if_neg pl; exact wpAny_pure (last true))
end
end Rt
end
section
set_option Elab.async false
set_option linter.all false
set_option maxRecDepth 100000
set_option maxHeartbeats 4000000
/-! set(xs) and len of it, as rules of the layer; sorted(set(xs)) of ints -/
namespace Rt
open PySem PySem.Spec PyProof.Rows
section
variable {P : Program} {w : World} {κ : Type} [DecidableEq κ] {knd : KeyKind P w κ}
structure TIn (knd : KeyKind P w κ) (S : Addr) (ks : List (Addr × List κ)) (i : Nat) (h : Heap) : Prop where
  ex : ∃ L es ep t, TSet knd h S L es ep t ∧ (∀ k, k ∈ L.map (·.2) ↔ k ∈ (ks.take i).map (·.2)) ∧ L.length = cnt ((ks.take i).map (·.2)) ∧ ∀ p ∈ L, p ∈ ks
abbrev Keeps (h h' : Heap) : Prop := ∀ b o, h.get? b = some o → h'.get? b = some o
theorem tup_keep {h h' : Heap} {k : List κ} {b : Addr} (hb : IsTupleKey knd h k b) (kp : Keeps h h') : IsTupleKey knd h' k b := by
  obtain ⟨u, items, n, hu, r⟩ := hb
  exact ⟨u, items, n, kp _ _ hu, r⟩
theorem TSet.over {h h' : Heap} {a : Addr} {L : List (Addr × List κ)} {es : Array (Int × Value)} {ep : Nat} {t : SetTable} (R : TSet knd h a L es ep t) (ha : ∀ o, h.get? a = some o → h'.get? a = some o) (ht : ∀ p ∈ L, IsTupleKey knd h' p.2 p.1) : TSet knd h' a L es ep t := by
  obtain ⟨o, ho, r⟩ := R.ob
  exact ⟨⟨o, ha o ho, r⟩, R.rw_, R.tb, R.one, ht, R.mask, R.few⟩
variable {A : Around} {R : Result → Shared → Prop} {I : Addr} {fp wr : List Addr} {G : Array GenState → Array GenState → Prop} {n : Nat} {Pv : Nat → Value → Prop} {St : Nat → Shared → Prop}
theorem fill_tups (M : Mild knd) (walk : WalksS P w A.in1 I fp wr G n Pv St) (S : Addr) (out : S ∉ fp) (ks : List (Addr × List κ)) (hn : ks.length = n) (few : n ≤ 4) (val : ∀ i v, Pv i v → ∃ p, ks[i]? = some p ∧ v = .ref p.1)
    (h0 : Heap) (hk : ∀ p ∈ ks, IsTupleKey knd h0 p.2 p.1) (S0 : h0.get? S = none) (w0 : ∀ b ∈ wr, h0.get? b = none) (hu : A.in1.units < cLine) :
    ∀ (d i : Nat) (s : Shared), i + d = n → St i s → Keeps h0 s.heap → TIn knd S ks i s.heap → (∀ s', Moved (S :: wr) G s s' → TIn knd S ks n s'.heap → R (.ok (.ret .none)) s') →
      codeAny (model P w) A (.builtin "set.update.loop" ⟨[.ref S, .ref I], []⟩) R s := by
  have mkeep : ∀ {s s' : Shared}, Moved wr G s s' → Keeps h0 s.heap → Keeps h0 s'.heap := fun mv kp b o e => mv.heap b o (fun hb => by rw [w0 b hb] at e; cases e) (kp b o e)
  have carry : ∀ {s s' : Shared} {i : Nat}, Moved wr G s s' → Keeps h0 s'.heap → TIn knd S ks i s.heap → TIn knd S ks i s'.heap := fun mv kp ⟨L, es, ep, t, T, z1, z2, z3⟩ =>
    ⟨L, es, ep, t, T.over (fun o ho => mv.heap S o (fun q => out (walk.sub _ q)) ho) fun p hp => tup_keep (hk p (z3 p hp)) kp, z1, z2, z3⟩
  intro d
  induction d with
  | zero =>
    intro i s e st kp here fin
    obtain rfl : i = n := by omega
    apply codeAny_builtin F.entry_set_update_loop
    rw [Around.under_plainId F.plain_set_update_loop _]
    show wpAny _ A.in1 (pyNext (.ref I) >>= _) _ _ s
    apply wpAny_bind
    apply walk.done s _ _ st
    intro s' mv
    exact wpAny_pure (fin s' (mv.mono fun b hb => List.mem_cons_of_mem _ hb) (carry mv (mkeep mv kp) here))
  | succ d ih =>
    intro i s e st kp here fin
    apply codeAny_builtin F.entry_set_update_loop
    rw [Around.under_plainId F.plain_set_update_loop _]
    show wpAny _ A.in1 (pyNext (.ref I) >>= _) _ _ s
    apply wpAny_bind
    apply walk.item i s _ _ (by omega) st
    intro v s' pv st' mv
    obtain ⟨p, hp, rfl⟩ := val i v pv
    have kp' := mkeep mv kp
    obtain ⟨L, es, ep, t, T, z1, z2, z3⟩ := carry mv kp' here
    have hx : IsTupleKey knd s'.heap p.2 p.1 := tup_keep (hk p (List.mem_of_getElem? hp)) kp'
    show wpAny _ A.in1 (holding [Value.ref p.1] (setAdd S (.ref p.1)) >>= _) _ _ s'
    apply wpAny_bind
    apply wpAny_holding
    unfold setAdd
    apply wpAny_holding
    apply wpAny_bind
    apply wpAny_pyHash_tuple hu hx
    have il : i < ks.length := (List.getElem?_eq_some_iff.mp hp).1
    have room : L.length + 1 ≤ 4 := by
      have q := cnt_le ((ks.take i).map (·.2))
      rw [List.length_map] at q
      have q2 : (ks.take i).length ≤ i := List.length_take_le _ _
      omega
    refine add_it (s := { s' with toks := s'.toks + (p.2.length + 1) }) M T hx hu room fun r h' L' es' ep' t' sb T' same more => ?_
    have kp2 : Keeps h0 h' := fun b o e => (sb.2 b fun z => by rw [z, S0] at e; cases e).trans (kp' b o e)
    have step : (ks.take (i + 1)).map (·.2) = (ks.take i).map (·.2) ++ [p.2] := map_one _ hp
    have here' : TIn knd S ks (i + 1) h' := by
      refine ⟨L', es', ep', t', T', ?_⟩
      rw [step, cnt_snoc]
      by_cases m : p.2 ∈ L.map (·.2)
      · rw [same m]
        have m' := (z1 _).mp m
        refine ⟨fun k => ?_, by rw [if_pos m']; exact z2, z3⟩
        rw [z1 k, List.mem_append, List.mem_singleton]
        constructor
        · exact .inl
        · rintro (q | q)
          · exact q
          · rw [q]; exact m'
      · have m' : p.2 ∉ (ks.take i).map (·.2) := fun q => m ((z1 _).mpr q)
        have pm := more m
        refine ⟨fun k => ?_, by rw [if_neg m', pm.length_eq, List.length_cons, z2], fun r hr => ?_⟩
        · rw [(pm.map (·.2)).mem_iff, List.map_cons, List.mem_cons, z1 k, List.mem_append, List.mem_singleton]
          exact Or.comm
        · rcases List.mem_cons.mp (pm.mem_iff.mp hr) with q | q
          · rw [q]; exact List.mem_of_getElem? hp
          · exact z3 r q
    refine wpAny_pure ⟨plainId_quiet F.plain_set_update_loop _, ih (i + 1) _ (by omega) (walk.frame _ s' _ _ st' (Nat.le_add_right _ _) fun b hb o ho => ?_) kp2 here' fun s'' mv2 last => fin s'' ?_ last⟩
    · rw [sb.2 b (fun q : b = S => out (q ▸ hb))]
      exact ho
    · refine Moved.trans walk.gtrans ((mv.mono fun b hb => List.mem_cons_of_mem _ hb).then_heap (Nat.le_add_right _ _) fun b o hb ho => ?_) mv2
      rw [sb.2 b (fun q : b = S => hb (q ▸ List.mem_cons_self))]
      exact ho
end
end Rt
namespace Rt
open PySem PySem.Spec PyProof.Rows L2
/-- a set of n members -/
def SetN (a : Addr) (n : Nat) : HO := .ext fun h => ∃ o es ep t, h.get? a = some o ∧ o.ExactSet ∧ o.data = .set es ep t ∧ t.fits es.size = true ∧ es.size = n
theorem setN_ok {P : Program} {w : World} {H : Hp} {h : Heap} {a : Addr} {n : Nat} (q : ∃ o es ep t, h.get? a = some o ∧ o.ExactSet ∧ o.data = .set es ep t ∧ t.fits es.size = true ∧ es.size = n) : ObjOk P w H h a (SetN a n) := by
  have ⟨o, es, ep, t, ho, r⟩ := q
  exact ⟨q, ⟨o, ho⟩, fun h1 h2 z k => let ⟨o', es', ep', t', ho', r'⟩ := z; ⟨o', es', ep', t', k o' ho', r'⟩⟩
section
variable {X : Cx}
theorem call_lenN : CallR X (.builtin "len") (fun xs H Q => ∃ a n, xs = [V.ref a] ∧ H a = some (SetN a n) ∧ n ≤ 1000 ∧ Q (.int (n : Nat)) H) := by
  intro pins s σ H xs us Q I r h
  obtain ⟨a, n, rfl, ha, hn, q⟩ := h
  rw [Vals.ref1 r]
  obtain ⟨o, es, ep, t, ho, hex, hd, hf, hz⟩ := (show ∃ o es ep t, s.heap.get? a = some o ∧ o.ExactSet ∧ o.data = .set es ep t ∧ t.fits es.size = true ∧ es.size = n from (I.hok a _ ha).1)
  refine call_len_set ho hex hd hf (by rw [hz]; omega) ⟨.int (n : Nat), H, I.tok _, ⟨_, by rw [hz]⟩, q⟩
theorem fresh_set {prog : Program} {w : World} {κ : Type} [DecidableEq κ] {knd : PySem.KeyKind prog w κ} {h : Heap} {a : Addr} {led : Bool} {xs : List κ} (ha : h.get? a = some { cls := .type "set", dict := none, data := .set #[] 0 (.fresh 0 0 led) }) :
    h.SetOf knd a (fun j => decide (j ∈ xs.take 0)) (cnt (xs.take 0)) := by
  have q := (PyProof.Rows.setObjOf_fresh (knd := knd) led).setOf ha (by unfold scanBound; omega)
  have e : (fun j => decide (j ∈ xs.take 0)) = fun _ : κ => false := by
    funext j
    simp
  rw [e]
  exact q
def memb {κ : Type} [DecidableEq κ] (ks : List κ) (j : κ) : Bool := decide (j ∈ ks)
/-- set(xs), xs a list or a tuple of ints and texts -/
theorem call_setK (hc : X.calm = true) : CallR X (.type "set") (fun xs H Q => ∃ l, ∃ ks : List Key, xs = [V.ref l] ∧ (SqL X.K H l (ks.map kV) ∨ SqT X.K H l (ks.map kV)) ∧ ks.length ≤ 60 ∧ ∀ p, H p = none → Q (.ref p) (upd H p (SetN p (cnt ks)))) := by
  intro pins s σ H xs us Q I r h
  obtain ⟨l, ks, rfl, hl, hz, q⟩ := h
  rw [Vals.ref1 r]
  have key : ∀ {its : List Value}, Vals (ks.map kV) its → ∀ (i : Nat) (v : Value), its.toArray[i]? = some v → ∃ x, ks[i]? = some x ∧ (mixKind X.prog X.w).is x v = true ∧ v.scannable = true := fun {its} rv i v hv => by
    have hv' : its[i]? = some v := by simpa using hv
    cases hx : ks[i]? with
    | none =>
      have : (ks.map kV)[i]? = none := by rw [List.getElem?_map, hx]; rfl
      rw [rv.none_of this] at hv'
      cases hv'
    | some x =>
      obtain ⟨u, hu, ru⟩ := rv.get (i := i) (x := kV x) (by rw [List.getElem?_map, hx]; rfl)
      rw [hv'] at hu
      cases hu
      exact ⟨x, rfl, kV_is ru, key_scan ru⟩
  have fin : ∀ (h' : Heap) (tk : Nat), h'.SetOf (mixKind X.prog X.w) s.heap.objs.size (memb ks) (cnt ks) → (∀ b o, s.heap.get? b = some o → h'.get? b = some o) → EP X pins σ Q (.ref s.heap.objs.size) { s with heap := h', toks := tk } := fun h' tk S kp => by
    obtain ⟨o, es, ep, t, ho, hex, hd, _, _, _, hf, hn⟩ := S
    exact ⟨.ref s.heap.objs.size, _, I.laid (t' := tk) kp (Nat.le_refl _) (setN_ok ⟨o, es, ep, t, ho, hex, hd, hf, hn⟩), rfl, q _ (I.hok.fresh (Nat.le_refl _))⟩
  have two : ∀ led, (s.heap.push { cls := .type "set", dict := none, data := .set #[] 0 (.fresh 0 0 led) }).objs.size = s.heap.objs.size + 1 := fun led => Heap.size_push ..
  rcases hl with hl | hl
  · obtain ⟨its, rv, pl, hz'⟩ := I.list hl
    have lt : l < s.heap.objs.size := by
      obtain ⟨o, ho, _⟩ := pl.isList
      exact Heap.lt_size ho
    refine set_list (I.ok.hd hc) pl.isList (T := fun h' => h'.SetOf (mixKind X.prog X.w) s.heap.objs.size (memb ks) (cnt ks)) (fun led _ B R calm un k => ?_) fin
    have at0 : (setAhead X.w led s.heap "list_iterator" l).get? s.heap.objs.size = some { cls := .type "set", dict := none, data := .set #[] 0 (.fresh 0 0 led) } := Heap.get?_push_of_some _ (Heap.get?_push_size _ rfl)
    have at1 : (setAhead X.w led s.heap "list_iterator" l).get? (s.heap.objs.size + 1) = some { cls := .type "list_iterator", data := .fields #[.ref l, .int 0 0] } := by
      rw [← two led]
      exact Heap.get?_push_size _ rfl
    have ls : ks.length = its.toArray.size := by
      have := rv.length
      rw [List.length_map] at this
      simpa using this
    refine fill_keys (mixKind X.prog X.w) (Walks.list calm (s.heap.objs.size + 1) l (Nat.ne_of_lt (Nat.lt_succ_of_lt lt)) its.toArray).toS s.heap.objs.size (by
      simp only [List.mem_cons, List.not_mem_nil, or_false, not_or]
      exact ⟨Nat.ne_of_lt (Nat.lt_succ_self _), Nat.ne_of_gt lt⟩) ks ls (by rw [← ls]; unfold scanBound; omega) (key rv) its.toArray.size 0 _ (by omega) ⟨⟨_, at1, rfl, rfl⟩, (pl.isList.push _).push _⟩ (fresh_set at0) fun s' mv S => k s' mv S
  · obtain ⟨its, rv, pl, hz'⟩ := I.tuple hl
    have lt : l < s.heap.objs.size := by
      obtain ⟨o, ho, _⟩ := pl
      exact Heap.lt_size ho
    refine set_tuple (I.ok.hd hc) pl (T := fun h' => h'.SetOf (mixKind X.prog X.w) s.heap.objs.size (memb ks) (cnt ks)) (fun led _ B R calm un k => ?_) fin
    have at0 : (setAhead X.w led s.heap "tuple_iterator" l).get? s.heap.objs.size = some { cls := .type "set", dict := none, data := .set #[] 0 (.fresh 0 0 led) } := Heap.get?_push_of_some _ (Heap.get?_push_size _ rfl)
    have at1 : (setAhead X.w led s.heap "tuple_iterator" l).get? (s.heap.objs.size + 1) = some { cls := .type "tuple_iterator", data := .fields #[.ref l, .int 0 0] } := by
      rw [← two led]
      exact Heap.get?_push_size _ rfl
    have ls : ks.length = its.toArray.size := by
      have := rv.length
      rw [List.length_map] at this
      simpa using this
    refine fill_keys (mixKind X.prog X.w) (Walks.tuple calm (s.heap.objs.size + 1) l (Nat.ne_of_lt (Nat.lt_succ_of_lt lt)) its.toArray).toS s.heap.objs.size (by
      simp only [List.mem_cons, List.not_mem_nil, or_false, not_or]
      exact ⟨Nat.ne_of_lt (Nat.lt_succ_self _), Nat.ne_of_gt lt⟩) ks ls (by rw [← ls]; unfold scanBound; omega) (key rv) its.toArray.size 0 _ (by omega) ⟨⟨_, at1, rfl, rfl⟩, (pl.push _).push _⟩ (fresh_set at0) fun s' mv S => k s' mv S
end
end Rt
namespace Rt
open PySem PySem.Spec PyProof.Rows L2
section
variable {X : Cx}
theorem items_keys {P : Program} {w : World} : ∀ {k : List Key} {us : List Value}, Vals (k.map kV) us → ItemsAre (mixKind P w) k us
  | [], _, .nil => .nil
  | n :: k, _, .cons r t => .cons (kV_is r) (items_keys t)
theorem refs_at : ∀ {ks : List (Addr × List Key)} {us : List Value}, Vals (ks.map fun p => V.ref p.1) us → us = ks.map fun p => Value.ref p.1
  | [], _, .nil => rfl
  | p :: ks, _, .cons r t => by
    cases r
    rw [refs_at t]
    rfl
/-- set(xs), xs a list of up to four tuples of ints and texts -/
theorem call_setT (hc : X.calm = true) (hu : X.A.units + 64 < cLine) : CallR X (.type "set") (fun xs H Q => ∃ l, ∃ ks : List (Addr × List Key), xs = [V.ref l] ∧ SqL X.K H l (ks.map fun p => V.ref p.1) ∧ (∀ p ∈ ks, SqT X.K H p.1 (p.2.map kV)) ∧ ks.length ≤ 4 ∧
    ∀ p, H p = none → Q (.ref p) (upd H p (SetN p (cnt (ks.map (·.2)))))) := by
  intro pins s σ H xs us Q I r h
  obtain ⟨l, ks, rfl, hl, hk, few, q⟩ := h
  rw [Vals.ref1 r]
  obtain ⟨its, rv, pl, hz'⟩ := I.list hl
  have tups : ∀ p ∈ ks, IsTupleKey (mixKind X.prog X.w) s.heap p.2 p.1 := fun p hp => by
    obtain ⟨us, ru, ⟨o, ho, hcl, n, hd⟩, _⟩ := I.tuple (hk p hp)
    exact ⟨o, us.toArray, n, ho, hcl, hd, by simpa using items_keys ru⟩
  have eits : its = ks.map fun p => Value.ref p.1 := refs_at rv
  have lt : l < s.heap.objs.size := by
    obtain ⟨o, ho, _⟩ := pl.isList
    exact Heap.lt_size ho
  have free : ∀ b, s.heap.objs.size ≤ b → s.heap.get? b = none := fun b hb => Heap.get?_none_of_le hb
  refine set_list (I.ok.hd hc) pl.isList (T := fun h' => TIn (mixKind X.prog X.w) s.heap.objs.size ks ks.length h') (fun led _ B R calm un k => ?_) (fun h' tk S kp => ?_)
  · have two : (s.heap.push { cls := .type "set", dict := none, data := .set #[] 0 (.fresh 0 0 led) }).objs.size = s.heap.objs.size + 1 := Heap.size_push ..
    have at0 : (setAhead X.w led s.heap "list_iterator" l).get? s.heap.objs.size = some { cls := .type "set", dict := none, data := .set #[] 0 (.fresh 0 0 led) } := Heap.get?_push_of_some _ (Heap.get?_push_size _ rfl)
    have at1 : (setAhead X.w led s.heap "list_iterator" l).get? (s.heap.objs.size + 1) = some { cls := .type "list_iterator", data := .fields #[.ref l, .int 0 0] } := by
      rw [← two]
      exact Heap.get?_push_size _ rfl
    have ls : ks.length = its.toArray.size := by
      rw [eits]
      simp
    have val : ∀ (i : Nat) (v : Value), its.toArray[i]? = some v → ∃ p, ks[i]? = some p ∧ v = .ref p.1 := fun i v hv => by
      have hv' : its[i]? = some v := by simpa using hv
      rw [eits, List.getElem?_map] at hv'
      cases hx : ks[i]? with
      | none => rw [hx] at hv'; cases hv'
      | some p =>
        rw [hx] at hv'
        exact ⟨p, rfl, (Option.some.inj hv').symm⟩
    have empty : TSet (mixKind X.prog X.w) (setAhead X.w led s.heap "list_iterator" l) s.heap.objs.size [] #[] 0 (.fresh 0 0 led) :=
      ⟨⟨_, at0, ⟨rfl, rfl, rfl⟩, rfl⟩, rfl, ⟨List.Pairwise.nil, rfl, rfl, .inl rfl, fun x hx => (nomatch hx), fun i h j hi _ => by simp at hi⟩, List.nodup_nil, fun p hp => (nomatch hp), rfl, Nat.zero_le _⟩
    refine fill_tups mixMild (Walks.list calm (s.heap.objs.size + 1) l (Nat.ne_of_lt (Nat.lt_succ_of_lt lt)) its.toArray).toS s.heap.objs.size (by
      simp only [List.mem_cons, List.not_mem_nil, or_false, not_or]
      exact ⟨Nat.ne_of_lt (Nat.lt_succ_self _), Nat.ne_of_gt lt⟩) ks ls (by rw [← ls]; exact few) val s.heap tups (free _ (Nat.le_refl _)) (fun b hb => free b (by
        rw [List.mem_singleton.mp hb]
        exact Nat.le_succ _)) (by omega) its.toArray.size 0 _ (by omega) ⟨⟨_, at1, rfl, rfl⟩, (pl.isList.push _).push _⟩ (fun b o e => Heap.get?_push_of_some _ (Heap.get?_push_of_some _ e)) ⟨[], #[], 0, _, empty, fun k => by simp, rfl, fun p hp => (nomatch hp)⟩ fun s' mv S => k s' mv (by rw [ls]; exact S)
  · obtain ⟨L, es, ep, t, T, z1, z2, z3⟩ := S
    obtain ⟨o, ho, hex, hd⟩ := T.ob
    rw [List.take_length] at z2
    exact ⟨.ref s.heap.objs.size, _, I.laid (t' := tk) kp (Nat.le_refl _) (setN_ok ⟨o, es, ep, t, ho, hex, hd, T.fits, T.size.trans z2⟩), rfl, q _ (I.hok.fresh (Nat.le_refl _))⟩
end
end Rt
end
section
set_option Elab.async false
set_option linter.all false
set_option maxRecDepth 100000
set_option maxHeartbeats 4000000
/-! words: is_word, is_one_of, are_unlike -/
namespace Rt
open PySem PySem.Spec PyProof.Rows L2
def spWord (K : PySem.W.Frag) : Sp := fun vs H Q _ => ∃ x T, vs = [x] ∧ Ts K H x T ∧ (∀ z, x = .str z → z.length ≤ 1000) ∧ ∀ H', Same H H' → Q (.bl (isWord x)) H'
def spOne (K : PySem.W.Frag) : Sp := fun vs H Q _ => ∃ a ns x T, vs = [.ref a, x] ∧ strsL K H a ns ∧ Ts K H x T ∧ Q (.bl (isOne ns x)) H
def spUnlike (K : PySem.W.Frag) : Sp := fun vs H Q _ => ∃ a ns b xs, vs = [.ref a, .ref b] ∧ Sq K H a (ns.map V.str) ∧ Sq K H b xs ∧ (∀ x ∈ xs, ∃ T, Ts K H x T) ∧ xs.length ≤ 60 ∧ ns.length ≤ 60 ∧ ∀ H', Same H H' → Q (.bl (unlike ns xs)) H'
section
variable {P : Program} {w : World} {K : PySem.W.Frag} {mg : Str → Option Value} {base : Heap}
theorem cal_is_word (Z : All K mg) : Cal P w K mg base CX0 1 "is_word" ["value"] (spWord K) := by
  obtain ⟨fd, F⟩ := Z.f_is_word
  refine .of ⟨fd, F, ok0 F sc_is_word (fun vs H Q E h => ?_) (fun cdv A outer s H vs Q E hr h => ?_)⟩ Z.g_is_word (fun _ _ _ _ _ _ us hl => match us, hl with | [_], _ => rfl)
  · obtain ⟨x, T, rfl, _⟩ := h
    rfl
  · obtain ⟨x, T, rfl, hT, hz, k⟩ := h
    refine ⟨_, pss_cons (ps_if (PW.pt (pw_or (pt_not (pt_val (pe_callB (call_is (cn := "str") (by decide)) (by rfl) Z.b_isinstance boot_isinstance (pa_cons (pv 0) (pa_cons (pe_bltn (v := .ty "str") (by rfl) Z.b_str PyProof.Rows.boot_str rfl) pa_nil)))))
        (pw_or1 (pt_not (pt_chain op_le op_le pe_int (pe_callB call_len (by rfl) Z.b_len PySem.boot_len (pa_cons (pv 0) pa_nil)) (pe_gint (by rfl) Z.LONGEST_WORD)))))) (pss_one (ps_ret pe_bl)) pss_nil)
      (pss_one (ps_ret (pe_callB (cr_all rfl) (by rfl) Z.b_all boot_all (pa_cons (pe_lc (own := [("sign", 1)]) (g := gName 1) (by rfl) sc_is_word.nd (pi_str (pv 0)) (blkOk_by (own := [("sign", 1)]) (N := ["value", "sign"]) (sc := defScope s_is_word) (by decide +kernel))
        (fun _ _ _ _ _ => pg_name (i := 1) sc_is_word.nd rfl (Or.inl rfl)) (fun _ _ _ _ _ => pts_nil) (fun _ _ _ _ _ => pe_cmpR op_in_sign (pv 1) (pe_gstr (by rfl) Z.SMALL_LETTERS) rfl)) pa_nil)))), ?_⟩
    refine ⟨_, rfl, x, T, rfl, hT, _, rfl, ?_⟩
    cases hT with
    | str z =>
      refine ifF (by decide) ⟨_, rfl, _, z.length, rfl, ⟨Nat.le_of_lt (line_of (hz z rfl) (by decide)), rfl⟩, _, _, rfl, rfl, _, rfl, ifB (fun e1 => ?_) (fun e1 => ?_)⟩
      · refine ⟨_, _, rfl, rfl, _, rfl, ?_⟩
        show if (!decide ((z.length : Int) ≤ 8)) = true then _ else _
        refine ifB (fun e2 => ?_) (fun e2 => ?_)
        · have e : isWord (.str z) = false := by
            show ((decide ((1 : Int) ≤ (z.length : Int)) && decide ((z.length : Int) ≤ 8)) && _) = false
            rw [Bool.not_eq_true'] at e2
            rw [e2, Bool.and_false, Bool.false_and]
          rw [e] at k
          exact k H (Same.refl H)
        · have e3 : decide ((z.length : Int) ≤ 8) = true := by rw [Bool.not_eq_false'] at e2; exact e2
          refine ⟨_, rfl, z, rfl, fun D nD => lc_it (Qd := fun H' => _) walk_str (LcP H D fun i => (z.cps.toList.take i).map fun c => V.bl (decide (c ∈ letters.cps.toList))) (LcP.zero nD rfl) (fun _ _ _ _ => trivial) ?_ ?_⟩
          · rintro i v H2 H3 hi p ⟨rfl, c, hc, rfl⟩
            have hc' : z.cps.toList[i]? = some c := by rw [Array.getElem?_toList]; exact hc
            refine ⟨rfl, _, rfl, c, letters, rfl, rfl, ?_⟩
            refine p.put nD (map_one _ hc') (line_of (m := 1000) ?_ (by decide))
            rw [List.length_map]
            exact Nat.le_trans (List.length_take_le' _ _) (by rw [Array.length_toList]; exact hz z rfl)
          · intro H2 p
            have e4 : ((z.cps.toList.take z.cps.size).map fun c => V.bl (decide (c ∈ letters.cps.toList))) = (signs z).map V.bl := by
              rw [List.take_of_length_le (by rw [Array.length_toList]; exact Nat.le_refl _)]
              unfold signs
              rw [List.map_map]
              rfl
            refine ⟨D, signs z, rfl, SqL.of (by rw [p.at_, e4]), ?_⟩
            have e : isWord (.str z) = (signs z).all id := by
              show ((decide ((1 : Int) ≤ (z.length : Int)) && decide ((z.length : Int) ≤ 8)) && _) = _
              rw [e1, e3, Bool.and_true, Bool.true_and]
            rw [e] at k
            exact k H2 p.same
      · have e : isWord (.str z) = false := by
          show ((decide ((1 : Int) ≤ (z.length : Int)) && decide ((z.length : Int) ≤ 8)) && _) = false
          rw [e1, Bool.false_and, Bool.false_and]
        rw [e] at k
        exact ⟨_, rfl, ifT rfl (k H (Same.refl H))⟩
    | bl b => exact ifT (by decide) (k H (Same.refl H))
    | non => exact ifT (by decide) (k H (Same.refl H))
    | int x => exact ifT (by decide) (k H (Same.refl H))
    | tup h => exact ifT (by decide) (k H (Same.refl H))
    | lst h => exact ifT (by decide) (k H (Same.refl H))
    | dct h => exact ifT (by decide) (k H (Same.refl H))
theorem cal_is_one_of (Z : All K mg) : Cal P w K mg base CX0 1 "is_one_of" ["names", "value"] (spOne K) := by
  obtain ⟨fd, F⟩ := Z.f_is_one_of
  refine .of ⟨fd, F, ok0 F sc_is_one_of (fun vs H Q E h => ?_) (fun cdv A outer s H vs Q E hr h => ?_)⟩ Z.g_is_one_of (fun _ _ _ _ _ _ us hl => match us, hl with | [_, _], _ => rfl)
  · obtain ⟨a, ns, x, T, rfl, _⟩ := h
    rfl
  · obtain ⟨a, ns, x, T, rfl, hn, hT, k⟩ := h
    refine ⟨_, pss_one (ps_ret (pe_and (pe_callB (call_is (cn := "str") (by decide)) (by rfl) Z.b_isinstance boot_isinstance (pa_cons (pv 1) (pa_cons (pe_bltn (v := .ty "str") (by rfl) Z.b_str PyProof.Rows.boot_str rfl) pa_nil)))
      (pe_one (pe_cmpR op_in_seq (pv 1) (pv 0) rfl)))), ?_⟩
    refine ⟨_, rfl, x, T, rfl, hT, _, rfl, ?_⟩
    cases hT with
    | str z =>
      refine ifT (by decide) ⟨_, rfl, _, rfl, a, ns.map V.str, rfl, hn, rfl, flat_strsV ns, ?_⟩
      show Q (.bl (inV (.str z) (ns.map V.str))) H
      rw [inV_strs]
      exact k
    | bl b => exact ifF (by decide) k
    | non => exact ifF (by decide) k
    | int x => exact ifF (by decide) k
    | tup h => exact ifF (by decide) k
    | lst h => exact ifF (by decide) k
    | dct h => exact ifF (by decide) k
theorem cal_are_unlike (Z : All K mg) : Cal P w K mg base CX0 2 "are_unlike" ["names", "values"] (spUnlike K) := by
  obtain ⟨fd, F⟩ := Z.f_are_unlike
  have C1 : Cal P w K mg base CX0 1 "is_one_of" ["names", "value"] (spOne K) := cal_is_one_of Z
  refine .of ⟨fd, F, ok0 F sc_are_unlike (fun vs H Q E h => ?_) (fun cdv A outer s H vs Q E hr h => ?_)⟩ Z.g_are_unlike (fun _ _ _ _ _ _ us hl => match us, hl with | [_, _], _ => rfl)
  · obtain ⟨a, ns, b, xs, rfl, _⟩ := h
    rfl
  · obtain ⟨a, ns, b, xs, rfl, ha, hb, ht, hx, hn, k⟩ := h
    refine ⟨_, pss_cons (ps_if (PW.pt (pw_or (pt_cmpR op_gt (pe_callB call_len (by rfl) Z.b_len PySem.boot_len (pa_cons (pv 1) pa_nil)) (pe_callB call_len (by rfl) Z.b_len PySem.boot_len (pa_cons (pv 0) pa_nil)) (nomark _))
        (pw_or1 (pt_not (pt_val (pe_callB (cr_all rfl) (by rfl) Z.b_all boot_all (pa_cons (pe_lc (own := [("value", 2)]) (g := gName 2) (by rfl) sc_are_unlike.nd (pi_seq (pv 1)) (blkOk_by (own := [("value", 2)]) (N := ["names", "values", "value"]) (sc := defScope s_are_unlike) (by decide +kernel))
          (fun _ _ _ _ _ => pg_name (i := 2) sc_are_unlike.nd rfl (Or.inl rfl)) (fun _ _ _ _ _ => pts_nil) (fun _ _ _ _ _ => pe_cal C1 hr (by rfl) pass0 (pa_cons (pv 0) (pa_cons (pv 2) pa_nil)))) pa_nil))))))) (pss_one (ps_ret pe_bl)) pss_nil)
      (pss_one (ps_ret (pe_cmpR op_eq (pe_callB call_lenN (by rfl) Z.b_len PySem.boot_len (pa_cons (pe_callTy (call_setK rfl) (by rfl) Z.b_set PyProof.Rows.boot_set (pa_cons (pv 1) pa_nil)) pa_nil)) (pe_callB call_len (by rfl) Z.b_len PySem.boot_len (pa_cons (pv 1) pa_nil)) (nomark _)))), ?_⟩
    refine ⟨_, rfl, _, xs.length, rfl, lenV_sq hb, _, rfl, _, (ns.map V.str).length, rfl, lenV_sq ha, _, _, rfl, rfl, _, rfl, ?_⟩
    rw [List.length_map]
    refine ifB (fun e => ?_) (fun e => ?_)
    · have z : unlike ns xs = false := by
        unfold unlike
        rw [e]
        rfl
      rw [z] at k
      exact k H (Same.refl H)
    · refine ⟨_, rfl, b, rfl, ?_⟩
      refine lc_seq (K := K) hb (fun i => (xs.take i).map fun x => V.bl (isOne ns x)) rfl (fun D nD i x H2 hi p => ?_) fun D H2 nD s2 at2 => ?_
      · obtain ⟨T, t⟩ := ht x (List.mem_of_getElem? hi)
        refine ⟨rfl, _, rfl, _, rfl, a, ns, x, T, rfl, ha.same p.same, t.same p.same, ?_⟩
        refine p.put nD (map_one _ hi) (line_of (m := 60) ?_ (by decide))
        rw [List.length_map]
        exact Nat.le_trans (List.length_take_le' _ _) hx
      · refine ⟨D, xs.map (isOne ns), rfl, SqL.of (by rw [at2, List.take_length, List.map_map]; rfl), _, rfl, ?_⟩
        have e1 : (xs.map (isOne ns)).all id = xs.all (isOne ns) := by simp [List.all_map]
        rw [e1]
        refine ifB (fun e2 => ?_) (fun e2 => ?_)
        · have z : unlike ns xs = false := by
            unfold unlike
            rw [Bool.not_eq_true'] at e2
            rw [e2, Bool.false_and, Bool.and_false]
          rw [z] at k
          exact k H2 s2
        · rw [Bool.not_eq_false'] at e2
          have back := strs_back e2
          have hb2 : Sq K H2 b (((xs.filterMap strOf).map Sum.inr).map kV) := by
            rw [List.map_map]
            show Sq K H2 b ((xs.filterMap strOf).map V.str)
            rw [← back]
            exact hb.same s2
          have hl : (xs.filterMap strOf).length = xs.length := by
            have q := congrArg List.length back
            rw [List.length_map] at q
            exact q.symm
          refine ⟨_, rfl, b, (xs.filterMap strOf).map Sum.inr, rfl, hb2, by rw [List.length_map, hl]; exact hx, fun p np => ?_⟩
          have le : cnt ((xs.filterMap strOf).map (Sum.inr : Str → Key)) ≤ 60 := by
            have q := cnt_le ((xs.filterMap strOf).map (Sum.inr : Str → Key))
            rw [List.length_map, hl] at q
            omega
          refine ⟨p, _, rfl, upd_same, by omega, _, rfl, _, xs.length, rfl, lenV_sq ((hb.same s2).same (Same.new np)), rfl, ?_⟩
          have z : unlike ns xs = decide (V.int ((cnt ((xs.filterMap strOf).map (Sum.inr : Str → Key)) : Nat) : Int) = V.int ((xs.length : Nat) : Int)) := by
            unfold unlike
            rw [e, e2, Bool.not_false, Bool.true_and, Bool.true_and]
            have q := cnt_nd ((xs.filterMap strOf).map (Sum.inr : Str → Key))
            rw [List.length_map, hl] at q
            have q2 : ((xs.filterMap strOf).map (Sum.inr : Str → Key)).Nodup ↔ (xs.filterMap strOf).Nodup := ⟨fun h => List.Pairwise.of_map Sum.inr (fun _ _ hne e => hne (congrArg _ e)) h, fun h => List.Pairwise.map Sum.inr (fun _ _ hne e => hne (Sum.inr.inj e)) h⟩
            have q3 : (V.int ((cnt ((xs.filterMap strOf).map (Sum.inr : Str → Key)) : Nat) : Int) = V.int ((xs.length : Nat) : Int)) ↔ (xs.filterMap strOf).Nodup := by
              rw [← q2, ← q]
              constructor
              · intro h
                injection h with h
                omega
              · intro h
                rw [h]
            by_cases d : (xs.filterMap strOf).Nodup
            · rw [decide_eq_true d, decide_eq_true (q3.mpr d)]
            · rw [decide_eq_false d, decide_eq_false fun h => d (q3.mp h)]
          rw [z] at k
          exact k _ (s2.trans (Same.new np))
end
end Rt
end
section
set_option Elab.async false
set_option linter.all false
set_option maxRecDepth 100000
set_option maxHeartbeats 4000000
/-! the draws: take, one, pool -/
namespace Rt
open PySem PySem.Spec PyProof.Rows L2
def spTake : Sp := fun vs H Q _ => ∃ (p : Addr) (n : Int), vs = [.ref p, .int n] ∧ PoolAt H p ∧ 0 < n ∧ n < 1073741824 ∧ ∀ (r : Int) H', 0 ≤ r → r < n → Aft p H H' → Q (.int r) H'
def spPool (K : PySem.W.Frag) : Sp := fun vs H Q _ => ∃ (a : Addr) (ns : List Int) (k : Int), vs = [.ref a, .int k] ∧ SqL K H a (ns.map V.int) ∧ 0 ≤ k ∧ k ≤ 100 ∧ ∀ p H', H p = none → Same H H' → PoolAt H' p → Q (.ref p) H'
/-- one of the things of a list or a tuple -/
def spLone (K : PySem.W.Frag) : Sp := fun vs H Q _ => ∃ (p b : Addr) (xs : List V), vs = [.ref p, .ref b] ∧ PoolAt H p ∧ Sq K H b xs ∧ b ≠ p ∧ 0 < xs.length ∧ xs.length ≤ 1000 ∧ ∀ x H', x ∈ xs → Aft p H H' → Q x H'
theorem Aft.sq {K : PySem.W.Frag} {p b : Addr} {H H' : Hp} {xs : List V} (a : Aft p H H') (h : Sq K H b xs) (n : b ≠ p) : Sq K H' b xs := h.elim (fun h => .inl (a.sqL h n)) fun h => .inr (a.sqT h n)
section
variable {P : Program} {w : World} {K : PySem.W.Frag} {mg : Str → Option Value} {base : Heap}
theorem cal_law_take (Z : All K mg) : Cal P w K mg base CX0 1 "_law_take" ["_law_pool_here", "_law_bound"] spTake := by
  obtain ⟨fd, F⟩ := Z.f_law_take
  refine .of ⟨fd, F, ok0 F sc_law_take (fun vs H Q E h => ?_) (fun cdv A outer s H vs Q E hr h => ?_)⟩ Z.g_law_take (fun _ _ _ _ _ _ us hl => match us, hl with | [_, _], _ => rfl)
  · obtain ⟨p, n, rfl, _⟩ := h
    rfl
  · obtain ⟨p, n, rfl, ⟨x, y, hp, x0, y0, y1⟩, n0, n1, k⟩ := h
    refine ⟨_, (pss_cons (ps_if (pt_cmpR op_gt (pe_ix ix_list (pv 0) pe_int (fun _ _ => rfl)) pe_int (nomark _)) (pss_cons (ps_set (i := 2) sc_law_take.nd rfl (Or.inl rfl) (pe_op op_mod (pe_callTy call_int1 (by rfl) Z.b_int PyProof.Rows.boot_int (pa_cons (pe_ix ix_list (pv 0) pe_int (fun _ _ => rfl)) pa_nil)) (pv 1)))
      (pss_cons (ps_asg (pe_op op_fdiv (pe_ix ix_list (pv 0) pe_int (fun _ _ => rfl)) (pv 1)) (pg_sub (pv 0) pe_int L2.set_list))
      (pss_one (ps_ret (pv 2))))) pss_nil)
      (pss_cons (ps_asg (pe_op op_mod (pe_callTy call_int1 (by rfl) Z.b_int PyProof.Rows.boot_int (pa_cons (pe_op op_add (pe_op op_mul (pe_ix ix_list (pv 0) pe_int (fun _ _ => rfl)) pe_int) pe_int) pa_nil)) pe_int) (pg_sub (pv 0) pe_int L2.set_list))
      (pss_one (ps_ret (pe_op op_mod (pe_callTy call_int1 (by rfl) Z.b_int PyProof.Rows.boot_int (pa_cons (pe_op op_fdiv (pe_op op_mod (pe_callTy call_int1 (by rfl) Z.b_int PyProof.Rows.boot_int (pa_cons (pe_op op_mul (pe_ix ix_list (pv 0) pe_int (fun _ _ => rfl)) (pe_ix ix_list (pv 0) pe_int (fun _ _ => rfl))) pa_nil)) pe_int) pe_int) pa_nil)) (pv 1)))))), ?_⟩
    refine ⟨_, rfl, p, _, _, _, rfl, rfl, SqL.of hp, rfl, _, _, rfl, rfl, _, rfl, ?_⟩
    refine ifB (fun e => ?_) (fun e => ?_)
    · refine ⟨_, rfl, p, _, _, _, rfl, rfl, SqL.of hp, rfl, .inl ⟨_, rfl, _, rfl, _, _, rfl, rfl, n0, ?_⟩⟩
      refine ⟨_, rfl, p, _, _, _, rfl, rfl, SqL.of hp, rfl, _, rfl, _, _, rfl, rfl, ⟨n0, n1⟩, _, rfl, p, _, _, 0, rfl, rfl, hp, rfl, _, rfl, ?_⟩
      refine k _ _ (Int.emod_nonneg _ (by omega)) (Int.emod_lt_of_pos _ n0) ⟨⟨x / n, y, upd_same, Int.ediv_nonneg x0 (by omega), y0, y1⟩, fun b o nb hb => ?_⟩
      rw [upd_ne nb]
      exact hb
    · refine ⟨_, rfl, p, _, _, _, rfl, rfl, SqL.of hp, rfl, _, _, rfl, rfl, .inl ⟨by omega, by omega⟩, _, _, rfl, rfl, .inl ⟨_, rfl, _, _, rfl, rfl, (by show (0 : Int) < 2147483647; decide), ?_⟩⟩
      refine ⟨_, rfl, p, _, _, 1, rfl, rfl, hp, rfl, ?_⟩
      have z0 : 0 ≤ (y * 39373 + 7) % 2147483647 := Int.emod_nonneg _ (by decide)
      have z1 : (y * 39373 + 7) % 2147483647 < 2147483647 := Int.emod_lt_of_pos _ (by decide)
      have hp2 : (upd H p (.lst ([V.int x, V.int y].set 1 (.int ((y * 39373 + 7) % 2147483647))))) p = some (.lst [.int x, .int ((y * 39373 + 7) % 2147483647)]) := upd_same
      refine ⟨_, rfl, p, _, _, _, rfl, rfl, SqL.of hp2, rfl, _, rfl, p, _, _, _, rfl, rfl, SqL.of hp2, rfl, _, _, rfl, rfl, .inl ⟨by omega, by omega⟩, .inl ⟨_, rfl, _, _, rfl, rfl, (by show (0 : Int) < 2147483629; decide), ?_⟩⟩
      refine ⟨_, _, rfl, rfl, ⟨by decide, by decide⟩, .inl ⟨_, rfl, _, rfl, _, _, rfl, rfl, n0, ?_⟩⟩
      refine k _ _ (Int.emod_nonneg _ (by omega)) (Int.emod_lt_of_pos _ n0) ⟨⟨x, _, hp2, x0, z0, z1⟩, fun b o nb hb => ?_⟩
      rw [upd_ne nb]
      exact hb
theorem cal_law_pool (Z : All K mg) : Cal P w K mg base CX0 1 "_law_pool" ["_law_script", "_law_k"] (spPool K) := by
  obtain ⟨fd, F⟩ := Z.f_law_pool
  refine .of ⟨fd, F, ok0 F sc_law_pool (fun vs H Q E h => ?_) (fun cdv A outer s H vs Q E hr h => ?_)⟩ Z.g_law_pool (fun _ _ _ _ _ _ us hl => match us, hl with | [_, _], _ => rfl)
  · obtain ⟨a, ns, k, rfl, _⟩ := h
    rfl
  · obtain ⟨a, ns, i, rfl, ha, i0, i1, k⟩ := h
    refine ⟨_, (pss_cons (ps_set (i := 2) sc_law_pool.nd rfl (Or.inl rfl) pe_int)
      (pss_cons (ps_if (pt_cmpR op_lt (pv 1) (pe_callB call_len (by rfl) Z.b_len PySem.boot_len (pa_cons (pv 0) pa_nil)) (nomark _)) (pss_one (ps_set (i := 2) sc_law_pool.nd rfl (Or.inl rfl) (pe_ix ix_list (pv 0) (pv 1) (fun _ _ => rfl)))) pss_nil)
      (pss_cons (ps_set (i := 3) sc_law_pool.nd rfl (Or.inl rfl) (pe_callB (call_max2 rfl) (by rfl) Z.b_max PyProof.Rows.boot_max (pa_cons (pe_callTy call_int1 (by rfl) Z.b_int PyProof.Rows.boot_int (pa_cons (pv 2) pa_nil)) (pa_cons (pe_callTy call_int1 (by rfl) Z.b_int PyProof.Rows.boot_int (pa_cons (pe_op op_sub (pe_un un_neg pe_int) (pv 2)) pa_nil)) pa_nil))))
      (pss_cons (ps_set (i := 4) sc_law_pool.nd rfl (Or.inl rfl) (pe_op op_mod (pe_callTy call_int1 (by rfl) Z.b_int PyProof.Rows.boot_int (pa_cons (pe_op op_mul (pe_op op_add (pe_op op_add (pe_op op_add (pe_op op_mod (pe_callTy call_int1 (by rfl) Z.b_int PyProof.Rows.boot_int (pa_cons (pv 3) pa_nil)) pe_int) (pe_op op_mul (pe_op op_mul pe_int (pv 1)) (pv 1))) (pe_op op_mul pe_int (pv 1))) pe_int) pe_int) pa_nil)) pe_int))
      (pss_one (ps_ret (pe_lst (pa_cons (pe_op op_mul (pv 3) (pe_callTy call_int1 (by rfl) Z.b_int PyProof.Rows.boot_int (pa_cons (pe_cmpR op_ge (pv 3) (pe_op op_pow pe_int pe_int) (nomark _)) pa_nil))) (pa_cons (pv 4) pa_nil))))))))), ?_⟩
    have two64 : (2 : Int) ^ 64 = 18446744073709551616 := by decide
    have fin : ∀ (c : Int) (p : Addr), H p = none → ∀ z : Int, 0 ≤ z → z < 2147483647 → ∀ g : Bool, PoolAt (upd H p (.lst [.int ((if -1 - c > c then -1 - c else c) * (if g then 1 else 0)), .int z])) p := fun c p np z z0 z1 g => by
      refine ⟨_, _, upd_same, ?_, z0, z1⟩
      refine Int.mul_nonneg ?_ ?_
      · split <;> omega
      · split <;> decide
    have b2 : ∀ g : Bool, (-(2 ^ 64) : Int) < (if g = true then 1 else 0) ∧ (if g = true then (1 : Int) else 0) < 2 ^ 64 := fun g => by cases g <;> decide
    have md : ∀ x : Int, 0 ≤ x % 2147483647 ∧ x % 2147483647 < 2147483647 := fun x => ⟨Int.emod_nonneg _ (by decide), Int.emod_lt_of_pos _ (by decide)⟩
    refine ⟨_, rfl, _, rfl, _, (ns.map V.int).length, rfl, .inl ⟨_, ha, rfl⟩, _, _, rfl, rfl, _, rfl, ?_⟩
    refine ifB (fun e => ?_) (fun e => ?_)
    · have lt : i < ((ns.map V.int).length : Int) := of_decide_eq_true e
      obtain ⟨j, x, hx, at_, _⟩ := atI_of i0 lt
      obtain ⟨c, rfl⟩ : ∃ c, x = .int c := by
        obtain ⟨c, _, rfl⟩ := List.mem_map.mp (List.mem_of_getElem? hx)
        exact ⟨c, rfl⟩
      refine ⟨_, rfl, _, rfl, a, _, _, _, rfl, rfl, ha, at_, ?_⟩
      refine ⟨_, rfl, .inl ⟨_, rfl, _, rfl, _, rfl, _, _, rfl, rfl, .inl ⟨_, rfl, _, _, rfl, ?_⟩⟩⟩
      refine ⟨_, rfl, .inl ⟨_, rfl, _, _, rfl, rfl, (by show (0 : Int) < 2147483629; decide), _, rfl, _, _, rfl, rfl, .inl ⟨by decide, by decide⟩, _, rfl, _, _, rfl, rfl, .inr ⟨by rw [two64]; omega, by rw [two64]; omega⟩, _, _, rfl, rfl, ?_⟩⟩
      refine ⟨_, rfl, _, _, rfl, rfl, .inl ⟨by decide, by decide⟩, _, _, rfl, rfl, _, _, rfl, rfl, _, _, rfl, rfl, .inr ⟨by decide, by decide⟩, .inl ⟨_, rfl, _, _, rfl, rfl, (by show (0 : Int) < 2147483647; decide), ?_⟩⟩
      refine ⟨_, rfl, _, rfl, _, _, rfl, rfl, ⟨by decide, by decide, by decide⟩, _, _, rfl, rfl, .inr ⟨_, rfl, _, _, rfl, rfl, .inr (b2 _), _, rfl, (by show 2 ≤ sizeLine; decide), fun p np => ?_⟩⟩
      exact k p _ np (Same.new np) (fin c p np _ (md _).1 (md _).2 _)
    · refine ⟨_, rfl, .inl ⟨_, rfl, _, rfl, _, rfl, _, _, rfl, rfl, .inl ⟨_, rfl, _, _, rfl, ?_⟩⟩⟩
      refine ⟨_, rfl, .inl ⟨_, rfl, _, _, rfl, rfl, (by show (0 : Int) < 2147483629; decide), _, rfl, _, _, rfl, rfl, .inl ⟨by decide, by decide⟩, _, rfl, _, _, rfl, rfl, .inr ⟨by rw [two64]; omega, by rw [two64]; omega⟩, _, _, rfl, rfl, ?_⟩⟩
      refine ⟨_, rfl, _, _, rfl, rfl, .inl ⟨by decide, by decide⟩, _, _, rfl, rfl, _, _, rfl, rfl, _, _, rfl, rfl, .inr ⟨by decide, by decide⟩, .inl ⟨_, rfl, _, _, rfl, rfl, (by show (0 : Int) < 2147483647; decide), ?_⟩⟩
      refine ⟨_, rfl, _, rfl, _, _, rfl, rfl, ⟨by decide, by decide, by decide⟩, _, _, rfl, rfl, .inr ⟨_, rfl, _, _, rfl, rfl, .inr (b2 _), _, rfl, (by show 2 ≤ sizeLine; decide), fun p np => ?_⟩⟩
      exact k p _ np (Same.new np) (fin 0 p np _ (md _).1 (md _).2 _)
theorem cal_law_one (Z : All K mg) : Cal P w K mg base CX0 2 "_law_one" ["_law_pool_here", "_law_things"] (spLone K) := by
  obtain ⟨fd, F⟩ := Z.f_law_one
  have C_law_take : Cal P w K mg base CX0 1 "_law_take" ["_law_pool_here", "_law_bound"] spTake := cal_law_take Z
  refine .of ⟨fd, F, ok0 F sc_law_one (fun vs H Q E h => ?_) (fun cdv A outer s H vs Q E hr h => ?_)⟩ Z.g_law_one (fun _ _ _ _ _ _ us hl => match us, hl with | [_, _], _ => rfl)
  · obtain ⟨p, b, xs, rfl, _⟩ := h
    rfl
  · obtain ⟨p, b, xs, rfl, hp, hb, nb, x0, x1, k⟩ := h
    refine ⟨_, (pss_one (ps_ret (pe_ix (ix_list.or ix_tup) (pv 1) (pe_cal C_law_take (hr.mono (by decide)) (by rfl) pass0 (pa_cons (pv 0) (pa_cons (pe_callB call_len (by rfl) Z.b_len PySem.boot_len (pa_cons (pv 1) pa_nil)) pa_nil))) (fun _ _ => rfl)))), ?_⟩
    refine ⟨_, rfl, _, rfl, _, rfl, _, xs.length, rfl, lenV_sq hb, p, _, rfl, hp, by omega, by omega, fun r H' r0 r1 a => ?_⟩
    obtain ⟨i, x, hx, e, _⟩ := atI_of r0 r1
    rcases a.sq hb nb with q | q
    · exact .inl ⟨b, xs, r, x, rfl, rfl, q, e, k x H' (List.mem_of_getElem? hx) a⟩
    · exact .inr ⟨b, xs, r, x, rfl, rfl, q, e, k x H' (List.mem_of_getElem? hx) a⟩
end
end Rt
end
section
set_option Elab.async false
set_option linter.all false
/-! what was let, wants that explain it: the mathematics -/
namespace Rt
open PySem PySem.Spec PyProof.Rows L2
structure An where
  build : List Str
  skill : Str
  lets : Bool
def explB (b : List Str) (as : List An) (z : Str) : Bool := (as.filter fun a => decide (a.skill = z)).all fun a => decide (a.lets = b.all fun y => decide (y ∈ a.build))
def letAll (as : List An) (z y : Str) : Bool := (as.filter fun a => decide (a.skill = z) && a.lets).all fun a => decide (y ∈ a.build)
def mostW (ns : List Str) (as : List An) (z : Str) : List Str := ns.filter fun y => !decide (y = z) && letAll as z y
def othersB (ns : List Str) (z : Str) : List Str := ns.filter fun y => !decide (y = z)
def partsF (acc : List (List Str)) (n : Str) : List (List Str) := acc ++ acc.map (· ++ [n])
def partsB (l : List Str) : List (List Str) := l.foldl partsF [[]]
def fitB (ns : List Str) (as : List An) (z : Str) : List (List Str) := (partsB (othersB ns z)).filter fun b => explB b as z
def unionB (ns : List Str) (rows : List (List Str)) : List Str := ns.filter fun y => !(rows.filter fun r => decide (y ∈ r)).isEmpty
def commonB (ns : List Str) (rows : List (List Str)) : List Str := ns.filter fun y => (rows.filter fun r => !decide (y ∈ r)).isEmpty
def mustB (most : List Str) (as : List An) (z : Str) : List Str := most.filter fun y => !explB (othersB most y) as z
theorem mem_partsF : ∀ (l : List Str) (acc : List (List Str)) (b : List Str), b ∈ l.foldl partsF acc ↔ ∃ c s, c ∈ acc ∧ s.Sublist l ∧ b = c ++ s
  | [], acc, b => by
    constructor
    · intro h
      exact ⟨b, [], h, List.Sublist.slnil, by simp⟩
    · rintro ⟨c, s, hc, hs, rfl⟩
      rw [List.eq_nil_of_sublist_nil hs, List.append_nil]
      exact hc
  | n :: l, acc, b => by
    show b ∈ l.foldl partsF (partsF acc n) ↔ _
    rw [mem_partsF l]
    constructor
    · rintro ⟨c, s, hc, hs, rfl⟩
      rcases List.mem_append.mp hc with hc | hc
      · exact ⟨c, s, hc, .cons _ hs, rfl⟩
      · obtain ⟨d, hd, rfl⟩ := List.mem_map.mp hc
        exact ⟨d, n :: s, hd, .cons_cons _ hs, by simp⟩
    · rintro ⟨c, s, hc, hs, rfl⟩
      cases hs with
      | cons _ hs => exact ⟨c, s, List.mem_append_left _ hc, hs, rfl⟩
      | @cons_cons s' _ _ hs => exact ⟨c ++ [n], s', List.mem_append_right _ (List.mem_map_of_mem hc), hs, by simp⟩
theorem mem_parts {l b : List Str} : b ∈ partsB l ↔ b.Sublist l := by
  unfold partsB
  rw [mem_partsF]
  constructor
  · rintro ⟨c, s, hc, hs, rfl⟩
    rw [List.mem_singleton.mp hc]
    exact hs
  · intro h
    exact ⟨[], b, List.mem_cons_self, h, rfl⟩
theorem parts_len : ∀ (l : List Str) (acc : List (List Str)), (l.foldl partsF acc).length = acc.length * 2 ^ l.length
  | [], acc => by simp
  | n :: l, acc => by
    show (l.foldl partsF (partsF acc n)).length = _
    rw [parts_len l]
    unfold partsF
    rw [List.length_append, List.length_map, List.length_cons, Nat.pow_succ, ← Nat.two_mul, Nat.mul_comm 2, Nat.mul_assoc, Nat.mul_comm 2]
theorem expl_iff {b : List Str} {as : List An} {z : Str} : explB b as z = true ↔ ∀ a ∈ as, a.skill = z → (a.lets = true ↔ ∀ y ∈ b, y ∈ a.build) := by
  unfold explB
  rw [List.all_eq_true]
  constructor
  · intro h a ha e
    have q := of_decide_eq_true (h a (List.mem_filter.mpr ⟨ha, decide_eq_true e⟩))
    rw [q, List.all_eq_true]
    exact ⟨fun h y hy => of_decide_eq_true (h y hy), fun h y hy => decide_eq_true (h y hy)⟩
  · intro h a ha
    obtain ⟨ha, e⟩ := List.mem_filter.mp ha
    have q := h a ha (of_decide_eq_true e)
    refine decide_eq_true ?_
    rw [Bool.eq_iff_iff, q, List.all_eq_true]
    exact ⟨fun h y hy => decide_eq_true (h y hy), fun h y hy => of_decide_eq_true (h y hy)⟩
theorem letAll_iff {as : List An} {z y : Str} : letAll as z y = true ↔ ∀ a ∈ as, a.skill = z → a.lets = true → y ∈ a.build := by
  unfold letAll
  rw [List.all_eq_true]
  constructor
  · intro h a ha e l
    exact of_decide_eq_true (h a (List.mem_filter.mpr ⟨ha, by rw [decide_eq_true e, l]; rfl⟩))
  · intro h a ha
    obtain ⟨ha, e⟩ := List.mem_filter.mp ha
    rw [Bool.and_eq_true] at e
    exact decide_eq_true (h a ha (of_decide_eq_true e.1) e.2)
theorem mem_most {ns : List Str} {as : List An} {z y : Str} : y ∈ mostW ns as z ↔ y ∈ ns ∧ y ≠ z ∧ letAll as z y = true := by
  unfold mostW
  rw [List.mem_filter, Bool.and_eq_true, Bool.not_eq_true', decide_eq_false_iff_not]
theorem mem_others {ns : List Str} {z y : Str} : y ∈ othersB ns z ↔ y ∈ ns ∧ y ≠ z := by
  unfold othersB
  rw [List.mem_filter, Bool.not_eq_true', decide_eq_false_iff_not]
theorem most_eq (ns : List Str) (as : List An) (z : Str) : mostW ns as z = (othersB ns z).filter fun y => letAll as z y := by
  unfold mostW othersB
  rw [List.filter_filter]
  exact List.filter_congr fun y _ => Bool.and_comm _ _
theorem most_sub {ns : List Str} {as : List An} {z : Str} : (mostW ns as z).Sublist (othersB ns z) := by
  rw [most_eq]
  exact List.filter_sublist
theorem mem_fit {ns : List Str} {as : List An} {z : Str} {b : List Str} : b ∈ fitB ns as z ↔ b.Sublist (othersB ns z) ∧ explB b as z = true := by
  unfold fitB
  rw [List.mem_filter, mem_parts]
theorem fit_most {ns : List Str} {as : List An} {z : Str} {b : List Str} (h : b ∈ fitB ns as z) : ∀ y ∈ b, y ∈ mostW ns as z := fun y hy => by
  obtain ⟨h1, h2⟩ := mem_fit.mp h
  obtain ⟨o1, o2⟩ := mem_others.mp (h1.subset hy)
  exact mem_most.mpr ⟨o1, o2, letAll_iff.mpr fun a ha e l => (expl_iff.mp h2 a ha e).mp l y hy⟩
theorem expl_between {ns : List Str} {as : List An} {z : Str} {b c : List Str} (h : explB b as z = true) (h1 : ∀ y ∈ b, y ∈ c) (h2 : ∀ y ∈ c, y ∈ mostW ns as z) : explB c as z = true := expl_iff.mpr fun a ha e =>
  ⟨fun l y hy => letAll_iff.mp (mem_most.mp (h2 y hy)).2.2 a ha e l, fun k => (expl_iff.mp h a ha e).mpr fun y hy => k y (h1 y hy)⟩
theorem fit_iff {ns : List Str} {as : List An} {z : Str} : fitB ns as z ≠ [] ↔ explB (mostW ns as z) as z = true := by
  constructor
  · intro h
    obtain ⟨b, hb⟩ := List.exists_mem_of_ne_nil _ h
    exact expl_between (mem_fit.mp hb).2 (fit_most hb) fun y hy => hy
  · intro h e
    have : mostW ns as z ∈ fitB ns as z := mem_fit.mpr ⟨most_sub, h⟩
    rw [e] at this
    cases this
theorem notE {α : Type} {l : List α} : (!l.isEmpty) = true ↔ ∃ x, x ∈ l := by
  cases l with
  | nil => simp
  | cons x l => simp only [List.isEmpty_cons, Bool.not_false, true_iff]; exact ⟨x, List.mem_cons_self⟩
theorem isE {α : Type} {l : List α} : l.isEmpty = true ↔ ∀ x, x ∉ l := by
  cases l with
  | nil => simp
  | cons x l => simp only [List.isEmpty_cons, Bool.false_eq_true, false_iff]; exact fun h => h x List.mem_cons_self
theorem union_eq {ns : List Str} {as : List An} {z : Str} (h : explB (mostW ns as z) as z = true) : unionB ns (fitB ns as z) = mostW ns as z := by
  have e : mostW ns as z = ns.filter fun y => !decide (y = z) && letAll as z y := rfl
  rw [e]
  refine List.filter_congr fun y hy => ?_
  rw [Bool.eq_iff_iff, notE]
  have q : (!decide (y = z) && letAll as z y) = true ↔ y ∈ mostW ns as z := by
    rw [e, List.mem_filter]
    exact ⟨fun h => ⟨hy, h⟩, fun h => h.2⟩
  rw [q]
  constructor
  · rintro ⟨b, hb⟩
    obtain ⟨h1, h2⟩ := List.mem_filter.mp hb
    exact fit_most h1 y (of_decide_eq_true h2)
  · intro k
    exact ⟨mostW ns as z, List.mem_filter.mpr ⟨mem_fit.mpr ⟨most_sub, h⟩, decide_eq_true k⟩⟩
theorem common_eq {ns : List Str} {as : List An} {z : Str} (h : explB (mostW ns as z) as z = true) : commonB ns (fitB ns as z) = mustB (mostW ns as z) as z := by
  have e : mustB (mostW ns as z) as z = ns.filter fun y => !explB (othersB (mostW ns as z) y) as z && (!decide (y = z) && letAll as z y) := by
    show (ns.filter _).filter _ = _
    rw [List.filter_filter]
  rw [e]
  refine List.filter_congr fun y hy => ?_
  have q : (!decide (y = z) && letAll as z y) = true ↔ y ∈ mostW ns as z := by
    unfold mostW
    rw [List.mem_filter]
    exact ⟨fun h => ⟨hy, h⟩, fun h => h.2⟩
  rw [Bool.eq_iff_iff, isE, Bool.and_eq_true, q, Bool.not_eq_true']
  have sub : (othersB (mostW ns as z) y).Sublist (othersB ns z) := (List.filter_sublist).trans most_sub
  constructor
  · intro k
    have all : ∀ b ∈ fitB ns as z, y ∈ b := fun b hb => Classical.byContradiction fun n => k b (List.mem_filter.mpr ⟨hb, by rw [decide_eq_false n]; rfl⟩)
    refine ⟨?_, all _ (mem_fit.mpr ⟨most_sub, h⟩)⟩
    cases x : explB (othersB (mostW ns as z) y) as z with
    | false => rfl
    | true => exact absurd rfl (mem_others.mp (all _ (mem_fit.mpr ⟨sub, x⟩))).2
  · rintro ⟨n, m⟩ b hb
    obtain ⟨h1, h2⟩ := List.mem_filter.mp hb
    rw [Bool.not_eq_true', decide_eq_false_iff_not] at h2
    have x := expl_between (ns := ns) (c := othersB (mostW ns as z) y) (mem_fit.mp h1).2 (fun u hu => mem_others.mpr ⟨fit_most h1 u hu, fun e => h2 (e ▸ hu)⟩) fun u hu => (mem_others.mp hu).1
    rw [n] at x
    cases x
end Rt
end
section
set_option Elab.async false
set_option linter.all false
set_option maxRecDepth 100000
set_option maxHeartbeats 4000000
/-! told: is_ordered -/
namespace Rt
open PySem PySem.Spec PyProof.Rows L2
/-- a value as far as is_ordered sees it: a tuple of things, or something else -/
def Ov (K : PySem.W.Frag) (H : Hp) (x : V) : Option (List V) → Prop
  | some xs => ∃ b, x = .ref b ∧ SqT K H b xs ∧ (∀ y ∈ xs, ∃ T, Ts K H y T) ∧ xs.length ≤ 60
  | none => ∃ T, Ts K H x T ∧ T ≠ "tuple"
theorem Ov.same {K : PySem.W.Frag} {H H' : Hp} {x : V} {o : Option (List V)} (h : Ov K H x o) (s : Same H H') : Ov K H' x o := by
  cases o with
  | some xs =>
    obtain ⟨b, e, hb, ht, hl⟩ := h
    exact ⟨b, e, sqT_same s hb, fun y hy => let ⟨T, t⟩ := ht y hy; ⟨T, t.same s⟩, hl⟩
  | none =>
    obtain ⟨T, t, ne⟩ := h
    exact ⟨T, t.same s, ne⟩
def strsOf (xs : List V) : List Str := xs.filterMap strOf
theorem strsOf_map (ys : List Str) : strsOf (ys.map V.str) = ys := by
  unfold strsOf
  rw [List.filterMap_map]
  show ys.filterMap (fun y => some y) = ys
  induction ys with
  | nil => rfl
  | cons y ys ih => rw [List.filterMap_cons]; exact congrArg (y :: ·) ih
def ordO (ns : List Str) : Option (List V) → Bool
  | none => false
  | some xs => unlike ns xs && decide (strsOf xs = ns.filter fun z => decide (z ∈ strsOf xs))
theorem eqv_strs : ∀ ys zs : List Str, PyData.eqvAll (ys.map PyData.str) (zs.map PyData.str) = decide (ys = zs)
  | [], [] => by simp [PyData.eqvAll]
  | [], z :: zs => by simp [PyData.eqvAll]
  | y :: ys, [] => by simp [PyData.eqvAll]
  | y :: ys, z :: zs => by
    have ih := eqv_strs ys zs
    simp only [List.map_cons, PyData.eqvAll, PyData.eqv, ih]
    by_cases h : y = z
    · subst h
      simp
    · simp [h]
theorem shaped_tupS {zs : List Str} (h : Oks zs) : SeqAt.shaped (.tuple (zs.map PyData.str)) = true := by
  obtain ⟨h1, h2⟩ := lay_strs h
  refine shaped_of (by simp only [PyData.canLay0]; exact h1) ?_
  simp only [PyData.depth]
  omega
theorem Oks.filter {zs : List Str} (h : Oks zs) (p : Str → Bool) : Oks (zs.filter p) := fun z hz => h z (List.mem_filter.mp hz).1
theorem isOne_mem {ns : List Str} {z : Str} (h : isOne ns (.str z) = true) : z ∈ ns := of_decide_eq_true h
theorem unlike_back {ns : List Str} {xs : List V} (h : unlike ns xs = true) : xs = (strsOf xs).map V.str ∧ (∀ z ∈ strsOf xs, z ∈ ns) ∧ (strsOf xs).Nodup ∧ xs.length ≤ ns.length := by
  unfold unlike at h
  rw [Bool.and_eq_true, Bool.and_eq_true, Bool.not_eq_true', decide_eq_false_iff_not] at h
  obtain ⟨h1, h2, h3⟩ := h
  have e := strs_back h2
  refine ⟨e, fun z hz => ?_, of_decide_eq_true h3, by omega⟩
  have : V.str z ∈ xs := by
    rw [e]
    exact List.mem_map_of_mem hz
  exact isOne_mem (List.all_eq_true.mp h2 _ this)
def spOrd (K : PySem.W.Frag) : Sp := fun vs H Q _ => ∃ (n : Addr) (ns : List Str) (x : V) (o : Option (List V)), vs = [.ref n, x] ∧ Sq K H n (ns.map V.str) ∧ ns.length ≤ 60 ∧ Oks ns ∧ Ov K H x o ∧ ∀ H', Same H H' → Q (.bl (ordO ns o)) H'
section
variable {P : Program} {w : World} {K : PySem.W.Frag} {mg : Str → Option Value} {base : Heap}
theorem cal_is_ordered (Z : All K mg) : Cal P w K mg base CX0 3 "is_ordered" ["names", "value"] (spOrd K) := by
  obtain ⟨fd, F⟩ := Z.f_is_ordered
  have C_are_unlike : Cal P w K mg base CX0 2 "are_unlike" ["names", "values"] (spUnlike K) := cal_are_unlike Z
  refine .of ⟨fd, F, ok0 F sc_is_ordered (fun vs H Q E h => ?_) (fun cdv A outer s H vs Q E hr h => ?_)⟩ Z.g_is_ordered (fun _ _ _ _ _ _ us hl => match us, hl with | [_, _], _ => rfl)
  · obtain ⟨n, ns, x, o, rfl, _⟩ := h
    rfl
  · obtain ⟨n, ns, x, o, rfl, hn, h60, oks, ho, k⟩ := h
    refine ⟨_, (pss_cons (ps_if (PW.pt (pw_or (pt_not (pt_val (pe_callB (call_is (cn := "tuple") (by decide)) (by rfl) Z.b_isinstance boot_isinstance (pa_cons (pv 1) (pa_cons (pe_bltn (v := .ty "tuple") (by rfl) Z.b_tuple PyProof.Rows.boot_tuple rfl) pa_nil))))) (pw_or1 (pt_not (pt_val (pe_cal C_are_unlike (hr.mono (by decide)) (by rfl) pass0 (pa_cons (pv 0) (pa_cons (pv 1) pa_nil)))))))) (pss_one (ps_ret pe_bl)) pss_nil)
      (pss_one (ps_ret (pe_cmpR (op_eqD hr.units) (pv 1) (pe_callTy call_tuple_of (by rfl) Z.b_tuple PyProof.Rows.boot_tuple (pa_cons (pe_lc (own := [("name", 2)]) (by rfl) sc_is_ordered.nd (pi_seq (pv 0)) (blkOk_by (own := [("name", 2)]) (N := ["names", "value", "name"]) (sc := defScope s_is_ordered) (by decide +kernel)) (fun _ _ _ _ _ => (pg_name (i := 2) sc_is_ordered.nd rfl (Or.inl rfl))) (fun _ _ _ _ _ => (pts_one (pt_cmpR (show OpR _ (compareOp .In) (rIn K false) from op_in_seq) (pv 2) (pv 1) rfl))) (fun _ _ _ _ _ => (pv 2))) pa_nil)) (nomark _))))), ?_⟩
    cases o with
    | none =>
      obtain ⟨T, t, ne⟩ := ho
      refine ⟨_, rfl, x, T, rfl, t, _, rfl, ifT (by simp [answ, ne]) (k H (Same.refl H))⟩
    | some xs =>
      obtain ⟨b, rfl, hb, ht, hl⟩ := ho
      refine ⟨_, rfl, .ref b, "tuple", rfl, .tup hb, _, rfl, ifF (by decide) ⟨_, rfl, _, rfl, n, ns, b, xs, rfl, hn, .inr hb, ht, hl, h60, fun H1 s1 => ?_⟩⟩
      refine ⟨_, rfl, ifB (fun e => ?_) (fun e => ?_)⟩
      · have z : ordO ns (some xs) = false := by
          rw [Bool.not_eq_true'] at e
          show (unlike ns xs && _) = false
          rw [e]
          rfl
        rw [z] at k
        exact k H1 s1
      · rw [Bool.not_eq_false'] at e
        obtain ⟨back, inn, nd, ll⟩ := unlike_back e
        have hb1 := sqT_same s1 hb
        have hn1 := hn.same s1
        have hbs : SqT K H1 b ((strsOf xs).map V.str) := by
          rw [← back]
          exact hb1
        refine ⟨_, rfl, _, rfl, n, rfl, lc_seq hn1 (fun i => ((ns.take i).filter fun z => decide (z ∈ strsOf xs)).map V.str) rfl (fun D nD i y Hy hi' p => ?_) fun D H2 nD s2 at2 => ?_⟩
        · obtain ⟨z, rfl, hz⟩ := strs_get hi'
          refine ⟨rfl, _, rfl, _, rfl, b, (strsOf xs).map V.str, rfl, .inr (sqT_same p.same hbs), rfl, flat_strsV _, _, rfl, ?_⟩
          rw [inV_strs]
          by_cases e : z ∈ strsOf xs
          · refine ifT (decide_eq_true e) ⟨_, rfl, p.put nD (filt_one V.str _ hz (decide_eq_true e)) (line_of (m := 60) ?_ (by decide))⟩
            rw [List.length_map]
            exact Nat.le_trans (List.length_filter_le _ _) (Nat.le_trans (List.length_take_le' _ _) h60)
          · exact ifF (decide_eq_false e) (p.skip (filt_no V.str _ hz (decide_eq_false e)))
        · rw [List.length_map, List.take_length] at at2
          refine ⟨D, _, rfl, .inl ⟨SqL.of at2, fun t nt => ?_⟩⟩
          refine ⟨.tuple ((strsOf xs).map PyData.str), .tuple ((ns.filter fun z => decide (z ∈ strsOf xs)).map PyData.str), .tup (sqT_same (s2.trans (Same.new nt)) hbs) (dpAll_strs _), .tup (SqT.of upd_same) (dpAll_strs _), shaped_tupS fun z hz => oks z (inn z hz), shaped_tupS (oks.filter _), ?_⟩
          have z : ordO ns (some xs) = PyData.eqv (.tuple ((strsOf xs).map PyData.str)) (.tuple ((ns.filter fun z => decide (z ∈ strsOf xs)).map PyData.str)) := by
            show (unlike ns xs && _) = _
            rw [e, Bool.true_and]
            simp only [PyData.eqv]
            rw [eqv_strs]
          rw [z] at k
          exact k _ ((s1.trans s2).trans (Same.new nt))
end
end Rt
end
section
set_option Elab.async false
set_option linter.all false
set_option maxRecDepth 100000
set_option maxHeartbeats 4000000
/-! told: names and answers that are right -/
namespace Rt
open PySem PySem.Spec PyProof.Rows L2
/-- a build that stands in the order of some unlike names is what they have of it -/
theorem filter_sub : ∀ {ns b : List Str}, b.Sublist ns → ns.Nodup → ns.filter (fun z => decide (z ∈ b)) = b
  | _, _, .slnil, _ => rfl
  | _, b, .cons (l₂ := ns) z h, nd => by
    have nd' := List.nodup_cons.mp nd
    have nz : z ∉ b := fun q => nd'.1 (h.subset q)
    rw [List.filter_cons_of_neg (by rw [decide_eq_false nz]; decide)]
    exact filter_sub h nd'.2
  | _, _, .cons₂ (l₁ := b) (l₂ := ns) z h, nd => by
    have nd' := List.nodup_cons.mp nd
    rw [List.filter_cons_of_pos (by rw [decide_eq_true List.mem_cons_self])]
    congr 1
    have ih := filter_sub h nd'.2
    have e : ns.filter (fun y => decide (y ∈ z :: b)) = ns.filter (fun y => decide (y ∈ b)) := by
      refine List.filter_congr fun y hy => ?_
      have ne : y ≠ z := fun q => nd'.1 (q ▸ hy)
      rw [decide_eq_decide, List.mem_cons]
      exact ⟨fun q => q.resolve_left ne, .inr⟩
    rw [e, ih]
/-- an answer: a build, a skill, whether it was let -/
def AnT (H : Hp) (x : V) (a : An) : Prop := ∃ q r, x = .ref q ∧ H q = some (.tup [.ref r, .str a.skill, .bl a.lets]) ∧ H r = some (.tup (a.build.map V.str))
theorem ant_mono : TkMono AnT := fun H H' x a k ⟨q, r, e, h1, h2⟩ => ⟨q, r, e, k _ _ h1, k _ _ h2⟩
structure AnR (ns : List Str) (a : An) : Prop where
  skill : a.skill ∈ ns
  not_ : a.skill ∉ a.build
  sub : a.build.Sublist ns
structure Nm (ns : List Str) : Prop where
  nd : ns.Nodup
  ge : 1 ≤ ns.length
  le : ns.length ≤ 12
  words : ∀ z ∈ ns, isWord (.str z) = true ∧ z.length ≤ 1000
  oks : Oks ns
/-- names and answers that are right -/
structure Told (K : PySem.W.Frag) (H : Hp) (n : Addr) (ns : List Str) (s : Addr) (as : List An) : Prop where
  names : Lt K H n (ns.map V.str)
  nm : Nm ns
  seen : ∃ xs, Lt K H s xs ∧ Paired (AnT H) xs as
  ok : ∀ a ∈ as, AnR ns a
  le : as.length ≤ 60
theorem Told.same {K : PySem.W.Frag} {H H' : Hp} {n s : Addr} {ns : List Str} {as : List An} (h : Told K H n ns s as) (e : Same H H') : Told K H' n ns s as :=
  ⟨h.names.same e, h.nm, let ⟨xs, l, p⟩ := h.seen; ⟨xs, l.same e, paired_mono (fun x w q => ant_mono _ _ _ _ (Tk.of e) q) p⟩, h.ok, h.le⟩
theorem unlike_of {ns b : List Str} (h : b.length ≤ ns.length) (inn : ∀ z ∈ b, z ∈ ns) (nd : b.Nodup) : unlike ns (b.map V.str) = true := by
  unfold unlike
  rw [Bool.and_eq_true, Bool.and_eq_true, Bool.not_eq_true', decide_eq_false_iff_not]
  refine ⟨by rw [List.length_map]; omega, ?_, ?_⟩
  · rw [List.all_eq_true]
    intro x hx
    obtain ⟨z, hz, rfl⟩ := List.mem_map.mp hx
    exact decide_eq_true (inn z hz)
  · have := strsOf_map b
    unfold strsOf at this
    rw [this]
    exact decide_eq_true nd
theorem ord_sub {ns b : List Str} (nd : ns.Nodup) (h : b.Sublist ns) : ordO ns (some (b.map V.str)) = true := by
  show (unlike ns (b.map V.str) && decide (strsOf (b.map V.str) = ns.filter fun z => decide (z ∈ strsOf (b.map V.str)))) = true
  rw [unlike_of h.length_le (fun z hz => h.subset hz) (nd.sublist h), strsOf_map, filter_sub h nd]
  simp
theorem ov_tup {K : PySem.W.Frag} {H : Hp} {r : Addr} {b : List Str} (h : H r = some (.tup (b.map V.str))) (l : b.length ≤ 60) : Ov K H (.ref r) (some (b.map V.str)) :=
  ⟨r, rfl, SqT.of h, fun y hy => let ⟨z, _, e⟩ := List.mem_map.mp hy; ⟨"str", e ▸ Ts.str z⟩, by rw [List.length_map]; exact l⟩
theorem ps_dead {X : Cx} {st : Stmt} : PS X st (fun _ _ _ => False) := ⟨fun _ _ _ _ _ _ h => h.elim⟩
theorem lt_is {K : PySem.W.Frag} {H : Hp} {a : Addr} {xs : List V} (h : Lt K H a xs) : ∃ T, Ts K H (.ref a) T ∧ (decide (T = "list") || decide (T = "tuple")) = true := by
  obtain ⟨T, t, e⟩ := h.ty
  refine ⟨T, t, ?_⟩
  rcases e with rfl | rfl <;> decide
theorem all_trues {α : Type} {f : α → Bool} {xs : List α} (h : ∀ x ∈ xs, f x = true) : (xs.map f).all id = true := by
  rw [List.all_eq_true]
  intro b hb
  obtain ⟨x, hx, rfl⟩ := List.mem_map.mp hb
  exact h x hx
def spMbn (K : PySem.W.Frag) : Sp := fun vs H Q _ => ∃ (n : Addr) (ns : List Str), vs = [.ref n] ∧ Lt K H n (ns.map V.str) ∧ Nm ns ∧ ∀ H', Same H H' → Q .non H'
def spAns (K : PySem.W.Frag) : Sp := fun vs H Q _ => ∃ (n : Addr) (ns : List Str) (x : V) (a : An), vs = [.ref n, x] ∧ Lt K H n (ns.map V.str) ∧ Nm ns ∧ AnT H x a ∧ AnR ns a ∧ ∀ H', Same H H' → Q (.bl true) H'
def spSeen (K : PySem.W.Frag) : Sp := fun vs H Q _ => ∃ (n : Addr) (ns : List Str) (s : Addr) (as : List An), vs = [.ref n, .ref s] ∧ Told K H n ns s as ∧ ∀ H', Same H H' → Q (.bl true) H'
def spMbs (K : PySem.W.Frag) : Sp := fun vs H Q _ => ∃ (n : Addr) (ns : List Str) (s : Addr) (as : List An), vs = [.ref n, .ref s] ∧ Told K H n ns s as ∧ ∀ H', Same H H' → Q .non H'
section
variable {P : Program} {w : World} {K : PySem.W.Frag} {mg : Str → Option Value} {base : Heap}
theorem cal_must_be_names (Z : All K mg) : Cal P w K mg base CX0 3 "must_be_names" ["names"] (spMbn K) := by
  obtain ⟨fd, F⟩ := Z.f_must_be_names
  have C_is_word : Cal P w K mg base CX0 1 "is_word" ["value"] (spWord K) := cal_is_word Z
  have C_are_unlike : Cal P w K mg base CX0 2 "are_unlike" ["names", "values"] (spUnlike K) := cal_are_unlike Z
  refine .of ⟨fd, F, ok0 F sc_must_be_names (fun vs H Q E h => ?_) (fun cdv A outer s H vs Q E hr h => ?_)⟩ Z.g_must_be_names (fun _ _ _ _ _ _ us hl => match us, hl with | [_], _ => rfl)
  · obtain ⟨n, ns, rfl, _⟩ := h
    rfl
  · obtain ⟨n, ns, rfl, hn, nm, k⟩ := h
    have l1 := nm.ge
    have l2 := nm.le
    refine ⟨_, (pss_cons (ps_if (PW.pt (pw_or (pt_not (pt_val (pe_callB call_isLT (by rfl) Z.b_isinstance boot_isinstance (pa_cons (pv 0) (pa_cons (pe_tup (pa_cons (pe_bltn (v := .ty "list") (by rfl) Z.b_list PyProof.Rows.boot_list rfl) (pa_cons (pe_bltn (v := .ty "tuple") (by rfl) Z.b_tuple PyProof.Rows.boot_tuple rfl) pa_nil))) pa_nil))))) (pw_or1 (pt_not (pt_chain op_le op_le pe_int (pe_callB call_len (by rfl) Z.b_len PySem.boot_len (pa_cons (pv 0) pa_nil)) (pe_gint (by rfl) Z.MOST_SKILLS)))))) (pss_one ps_dead) pss_nil)
      (pss_one (ps_if (PW.pt (pw_or (pt_not (pt_val (pe_callB (cr_all rfl) (by rfl) Z.b_all boot_all (pa_cons (pe_lc (own := [("name", 1)]) (by rfl) sc_must_be_names.nd (pi_seq (pv 0)) (blkOk_by (own := [("name", 1)]) (N := ["names", "name"]) (sc := defScope s_must_be_names) (by decide +kernel)) (fun _ _ _ _ _ => (pg_name (i := 1) sc_must_be_names.nd rfl (Or.inl rfl))) (fun _ _ _ _ _ => pts_nil) (fun _ _ _ _ _ => (pe_cal C_is_word (hr.mono (by decide)) (by rfl) pass0 (pa_cons (pv 1) pa_nil)))) pa_nil)))) (pw_or1 (pt_not (pt_val (pe_cal C_are_unlike (hr.mono (by decide)) (by rfl) pass0 (pa_cons (pv 0) (pa_cons (pv 0) pa_nil)))))))) (pss_one ps_dead) pss_nil))), ?_⟩
    refine ⟨_, rfl, (by show 2 ≤ sizeLine; decide), fun tp ntp => ?_⟩
    have s1 : Same H (upd H tp (.tup [.ty "list", .ty "tuple"])) := Same.new ntp
    obtain ⟨H1, e1⟩ : ∃ H1, H1 = upd H tp (.tup [.ty "list", .ty "tuple"]) := ⟨_, rfl⟩
    have at1 : H1 tp = some (.tup [.ty "list", .ty "tuple"]) := by rw [e1]; exact upd_same
    rw [← e1] at s1 ⊢
    have hn1 := hn.same s1
    obtain ⟨T, t, eT⟩ := lt_is hn1
    refine ⟨.ref n, T, tp, rfl, at1, t, _, rfl, ?_⟩
    rw [eT]
    refine ifF rfl ⟨_, rfl, _, (ns.map V.str).length, rfl, lenV_sq hn1.sq, _, _, rfl, rfl, _, rfl, ?_⟩
    rw [List.length_map]
    refine ifT (decide_eq_true (by omega)) ⟨_, _, rfl, rfl, _, rfl, ?_⟩
    show if (!decide ((ns.length : Int) ≤ 12)) = true then _ else _
    refine ifF (by rw [decide_eq_true (by omega)]; rfl) ?_
    refine ⟨_, rfl, n, rfl, lc_seq hn1.sq (fun i => (ns.take i).map fun _ => V.bl true) rfl (fun D nD i y Hy hi' p => ?_) fun D H2 nD s2 at2 => ?_⟩
    · obtain ⟨z, rfl, hz⟩ := strs_get hi'
      have wz := nm.words z (List.mem_of_getElem? hz)
      refine ⟨rfl, _, rfl, .str z, "str", rfl, .str z, fun y e => ?_, fun H3 s3 => ?_⟩
      · cases e
        exact wz.2
      · rw [wz.1]
        exact (p.ext s3).put nD (map_one _ hz) (take_line _ (m := 12) nm.le (by decide))
    · rw [List.length_map, List.take_length] at at2
      have hn2 := hn1.same s2
      refine ⟨D, ns.map fun _ => true, rfl, SqL.of (by rw [at2, List.map_map]; rfl), _, rfl, ?_⟩
      rw [all_trues (fun _ _ => rfl)]
      refine ifF rfl ⟨_, rfl, _, rfl, n, ns, n, ns.map V.str, rfl, hn2.sq, hn2.sq, fun x hx => ?_, by rw [List.length_map]; omega, by omega, fun H3 s3 => ?_⟩
      · obtain ⟨z, _, rfl⟩ := List.mem_map.mp hx
        exact ⟨_, .str z⟩
      · rw [unlike_of (Nat.le_refl _) (fun z hz => hz) nm.nd]
        exact ⟨_, rfl, ifF rfl (k _ ((s1.trans s2).trans s3))⟩
theorem cal_is_answer (Z : All K mg) : Cal P w K mg base CX0 4 "is_answer" ["names", "row"] (spAns K) := by
  obtain ⟨fd, F⟩ := Z.f_is_answer
  have C_is_ordered : Cal P w K mg base CX0 3 "is_ordered" ["names", "value"] (spOrd K) := cal_is_ordered Z
  have C_is_one_of : Cal P w K mg base CX0 1 "is_one_of" ["names", "value"] (spOne K) := cal_is_one_of Z
  refine .of ⟨fd, F, ok0 F sc_is_answer (fun vs H Q E h => ?_) (fun cdv A outer s H vs Q E hr h => ?_)⟩ Z.g_is_answer (fun _ _ _ _ _ _ us hl => match us, hl with | [_, _], _ => rfl)
  · obtain ⟨n, ns, x, a, rfl, _⟩ := h
    rfl
  · obtain ⟨n, ns, x, a, rfl, hn, nm, ⟨q, r, rfl, hq, hr'⟩, ok, k⟩ := h
    have l2 := nm.le
    have lb : a.build.length ≤ ns.length := ok.sub.length_le
    refine ⟨_, (pss_cons (ps_if (PW.pt (pw_or (pt_not (pt_val (pe_callB (call_is (cn := "tuple") (by decide)) (by rfl) Z.b_isinstance boot_isinstance (pa_cons (pv 1) (pa_cons (pe_bltn (v := .ty "tuple") (by rfl) Z.b_tuple PyProof.Rows.boot_tuple rfl) pa_nil))))) (pw_or1 (pt_cmpR op_ne (pe_callB call_len (by rfl) Z.b_len PySem.boot_len (pa_cons (pv 1) pa_nil)) pe_int (nomark _))))) (pss_one (ps_ret pe_bl)) pss_nil)
      (pss_cons (ps_asg (pv 1) (pg_tup rfl (pgs_cons (pg_name (i := 2) sc_is_answer.nd rfl (Or.inl rfl)) (pgs_cons (pg_name (i := 3) sc_is_answer.nd rfl (Or.inl rfl)) (pgs_cons (pg_name (i := 4) sc_is_answer.nd rfl (Or.inl rfl)) pgs_nil)))))
      (pss_cons (ps_if (PW.pt (pw_or (pt_not (pt_val (pe_cal C_is_ordered (hr.mono (by decide)) (by rfl) pass0 (pa_cons (pv 0) (pa_cons (pv 2) pa_nil))))) (pw_or (pt_not (pt_val (pe_cal C_is_one_of (hr.mono (by decide)) (by rfl) pass0 (pa_cons (pv 0) (pa_cons (pv 3) pa_nil))))) (pw_or1 (pt_cmpR op_in_seq (pv 3) (pv 2) rfl))))) (pss_one (ps_ret pe_bl)) pss_nil)
      (pss_one (ps_ret (pe_or (pe_cmpR op_isBl (pv 4) pe_bl (nomark _)) (pe_one (pe_cmpR op_isBl (pv 4) pe_bl (nomark _))))))))), ?_⟩
    refine ⟨_, rfl, .ref q, "tuple", rfl, .tup (SqT.of hq), _, rfl, ifF (by decide) ?_⟩
    refine ⟨_, rfl, _, 3, rfl, .inr ⟨_, SqT.of hq, rfl⟩, rfl, _, rfl, ?_⟩
    refine ifF (by decide) ?_
    refine ⟨_, rfl, q, _, rfl, SqT.of hq, rfl, _, _, rfl, _, _, rfl, _, _, rfl, rfl, ?_⟩
    refine ⟨_, rfl, _, rfl, n, ns, .ref r, some (a.build.map V.str), rfl, hn.sq, by omega, nm.oks, ov_tup hr' (by omega), fun H1 s1 => ?_⟩
    rw [ord_sub nm.nd ok.sub]
    refine ⟨_, rfl, ifF rfl ⟨_, rfl, _, rfl, n, ns, .str a.skill, "str", rfl, hn.sq.same s1, .str _, ?_⟩⟩
    have e1 : isOne ns (.str a.skill) = true := decide_eq_true ok.skill
    rw [e1]
    refine ⟨_, rfl, ifF rfl ⟨_, rfl, _, rfl, r, _, rfl, .inr (SqT.of (s1 _ _ hr')), rfl, flat_strsV _, _, rfl, ?_⟩⟩
    rw [inV_strs, decide_eq_false ok.not_]
    refine ifF rfl ⟨_, rfl, _, _, rfl, rfl, _, rfl, ?_⟩
    cases a.lets with
    | true => exact ifT rfl (k _ s1)
    | false => exact ifF rfl ⟨_, rfl, _, _, rfl, rfl, k _ s1⟩
theorem cal_is_seen (Z : All K mg) : Cal P w K mg base CX0 5 "is_seen" ["names", "value"] (spSeen K) := by
  obtain ⟨fd, F⟩ := Z.f_is_seen
  have C_must_be_names : Cal P w K mg base CX0 3 "must_be_names" ["names"] (spMbn K) := cal_must_be_names Z
  have C_is_answer : Cal P w K mg base CX0 4 "is_answer" ["names", "row"] (spAns K) := cal_is_answer Z
  refine .of ⟨fd, F, ok0 F sc_is_seen (fun vs H Q E h => ?_) (fun cdv A outer s H vs Q E hr h => ?_)⟩ Z.g_is_seen (fun _ _ _ _ _ _ us hl => match us, hl with | [_, _], _ => rfl)
  · obtain ⟨n, ns, s, as, rfl, _⟩ := h
    rfl
  · obtain ⟨n, ns, sa, as, rfl, td, k⟩ := h
    refine ⟨_, (pss_cons (ps_expr (pe_cal C_must_be_names (hr.mono (by decide)) (by rfl) pass0 (pa_cons (pv 0) pa_nil)))
      (pss_one (ps_ret (pe_and (pe_callB call_isLT (by rfl) Z.b_isinstance boot_isinstance (pa_cons (pv 1) (pa_cons (pe_tup (pa_cons (pe_bltn (v := .ty "list") (by rfl) Z.b_list PyProof.Rows.boot_list rfl) (pa_cons (pe_bltn (v := .ty "tuple") (by rfl) Z.b_tuple PyProof.Rows.boot_tuple rfl) pa_nil))) pa_nil))) (pe_one (pe_callB (cr_all rfl) (by rfl) Z.b_all boot_all (pa_cons (pe_lc (own := [("row", 2)]) (by rfl) sc_is_seen.nd (pi_seq (pv 1)) (blkOk_by (own := [("row", 2)]) (N := ["names", "value", "row"]) (sc := defScope s_is_seen) (by decide +kernel)) (fun _ _ _ _ _ => (pg_name (i := 2) sc_is_seen.nd rfl (Or.inl rfl))) (fun _ _ _ _ _ => pts_nil) (fun _ _ _ _ _ => (pe_cal C_is_answer (hr.mono (by decide)) (by rfl) pass0 (pa_cons (pv 0) (pa_cons (pv 2) pa_nil))))) pa_nil))))))), ?_⟩
    refine ⟨_, rfl, n, ns, rfl, td.names, td.nm, fun H1 s1 => ?_⟩
    refine ⟨_, rfl, (by show 2 ≤ sizeLine; decide), fun tp ntp => ?_⟩
    have s2 : Same H (upd H1 tp (.tup [.ty "list", .ty "tuple"])) := s1.trans (Same.new ntp)
    obtain ⟨H2, e2⟩ : ∃ H2, H2 = upd H1 tp (.tup [.ty "list", .ty "tuple"]) := ⟨_, rfl⟩
    have at2 : H2 tp = some (.tup [.ty "list", .ty "tuple"]) := by rw [e2]; exact upd_same
    rw [← e2] at s2 ⊢
    have td2 := td.same s2
    obtain ⟨xs, hs, ps⟩ := td2.seen
    obtain ⟨T, t, eT⟩ := lt_is hs
    refine ⟨.ref sa, T, tp, rfl, at2, t, _, rfl, ?_⟩
    rw [eT]
    have lx : xs.length = as.length := Paired.length ps
    have la := td.le
    refine ifT rfl ⟨_, rfl, sa, rfl, lc_seq hs.sq (fun i => (xs.take i).map fun _ => V.bl true) rfl (fun D nD i y Hy hi' p => ?_) fun D H3 nD s3 at3 => ?_⟩
    · obtain ⟨a, ha, q⟩ := paired_at ps hi'
      refine ⟨rfl, _, rfl, _, rfl, n, ns, y, a, rfl, td2.names.same p.same, td.nm, ant_mono _ _ _ _ (Tk.of p.same) q, td.ok a (List.mem_of_getElem? ha), fun H3 s3 => ?_⟩
      exact (p.ext s3).put nD (map_one _ hi') (take_line _ (m := 60) (by omega) (by decide))
    · rw [List.take_length] at at3
      refine ⟨D, xs.map fun _ => true, rfl, SqL.of (by rw [at3, List.map_map]; rfl), ?_⟩
      rw [all_trues (fun _ _ => rfl)]
      exact k _ (s2.trans s3)
theorem cal_must_be_seen (Z : All K mg) : Cal P w K mg base CX0 6 "must_be_seen" ["names", "seen"] (spMbs K) := by
  obtain ⟨fd, F⟩ := Z.f_must_be_seen
  have C_is_seen : Cal P w K mg base CX0 5 "is_seen" ["names", "value"] (spSeen K) := cal_is_seen Z
  refine .of ⟨fd, F, ok0 F sc_must_be_seen (fun vs H Q E h => ?_) (fun cdv A outer s H vs Q E hr h => ?_)⟩ Z.g_must_be_seen (fun _ _ _ _ _ _ us hl => match us, hl with | [_, _], _ => rfl)
  · obtain ⟨n, ns, s, as, rfl, _⟩ := h
    rfl
  · obtain ⟨n, ns, sa, as, rfl, td, k⟩ := h
    refine ⟨_, (pss_one (ps_if (pt_not (pt_val (pe_cal C_is_seen (hr.mono (by decide)) (by rfl) pass0 (pa_cons (pv 0) (pa_cons (pv 1) pa_nil))))) (pss_one ps_dead) pss_nil)), ?_⟩
    refine ⟨_, rfl, _, rfl, n, ns, sa, as, rfl, td, fun H1 s1 => ⟨_, rfl, ifF rfl (k _ s1)⟩⟩
end
end Rt
end
section
set_option Elab.async false
set_option linter.all false
set_option maxRecDepth 100000
set_option maxHeartbeats 4000000
/-! name = {k: v for ..} -/
namespace Rt
open PySem PySem.Spec PyProof.Rows L2
theorem sw_trueD {kx vx : Expr} {gs : List Comprehension} {scope : Scope} {pos py : Pos} {y : Str} {l : Nat} {env : Env} (hk : env.scope.kind = .function) (hy : env.scope.names.lookup y = some .local) (hl : (py.line == pos.line) = true)
    (ha : (scope.names.any fun (n, k) => n == y && (k == .local || k == .cell)) = false) : swapsWith (.DictComp kx vx gs scope pos) (some (.Name y py)) l env = pure true := by
  have ky : env.kindOf y = some .local := hy
  have hb : env.blockKind = .function := by unfold Env.blockKind; rw [hk]; rfl
  unfold swapsWith
  simp only [hb, ky, ha, Expr.pos, hl]
  rfl
section
variable {X : Cx}
theorem ps_setDc {i : Nat} {y : Str} {py : Pos} {kx vx tg iter : Expr} {ifs : List Expr} {scope : Scope} {own : List (Str × Nat)} {pos spos : Pos} {wi : TI} {g : TG} {tt : TT} {tk tv : TE} (hc : X.calm = true) (hN : X.N.Nodup) (hy : X.N[i]? = some y) (hyl : X.env.scope.names.lookup y = some .local)
    (hsw : swapsWith (.DictComp kx vx [⟨tg, iter, ifs, 0⟩] scope pos) (some (.Name y py)) spos.line X.env = pure true) (hi : PI X tg iter wi) (ok : BlkOk X.N X.env.scope scope own)
    (hg : ∀ (s : Shared) (H : Hp) (C : Addr) (cl : List (Str × Addr)) (fp : List Addr), PG (X.blk s H scope (compEnvC scope cl C X.env) fp) tg g) (ht : ∀ (s : Shared) (H : Hp) (C : Addr) (cl : List (Str × Addr)) (fp : List Addr), PTs (X.blk s H scope (compEnvC scope cl C X.env) fp) ifs tt)
    (hk : ∀ (s : Shared) (H : Hp) (C : Addr) (cl : List (Str × Addr)) (fp : List Addr), PE (X.blk s H scope (compEnvC scope cl C X.env) fp) kx tk)
    (he : ∀ (s : Shared) (H : Hp) (C : Addr) (cl : List (Str × Addr)) (fp : List Addr), PE (X.blk s H scope (compEnvC scope cl C X.env) fp) vx tv) (hs : ∀ x, foldedSetIterable iter X.env x = pure x := by intro _; rfl) :
    PS X (.Assign [.Name y py] (.DictComp kx vx [⟨tg, iter, ifs, 0⟩] scope pos) spos) (tAsg (tDc wi g tt tk tv (own.map (·.2))) (gName i)) := by
  refine ⟨fun pins s σ H D I h => ?_⟩
  rw [exec_Assign_Name_used _ _ _ _ hsw]
  refine wpAny_bind (wpAny_standAt (wpAny_bind ?_))
  show wpAny _ X.A (do let _ ← comprehension (.DictComp kx vx [⟨tg, iter, ifs, 0⟩] scope pos) scope X.env (firstIterPos [⟨tg, iter, ifs, 0⟩] pos) newDict false (eval iter X.env) (some (assign (.Name y py) X.env))) _ _ s
  have h : tDc wi g tt tk tv (own.map (·.2)) σ H (fun x H1 => gName i x σ H1 D.nx) := h
  refine wpAny_bind (thn (dc_core (Qf := fun _ s' => SP X pins D .next s') hc hN I hi ok hg ht hk he hs h fun L C s' m H' I' q hn f => ?_) fun _ s' hq => wpAny_pure (wpAny_pure hq))
  show wpAny _ _ (assign (.Name y py) X.env (.ref L)) _ _ _
  refine wpAny_assign_Name (store_ok2 (v := V.ref L) I' hN hy (.inl hyl) rfl (fun s2 I2 ⟨a, sb, ha⟩ => ?_) (.inr hyl))
  obtain ⟨f0, f1, f2, f3, f4, f5⟩ := f
  have haC : C ≠ a := by
    rcases ha with z | z
    · rw [z]; exact f1
    · exact fun e => f4 y a z e.symm
  refine ⟨m, hn.sameBut sb haC, fun h3 sb3 => ?_⟩
  exact ⟨_, H', I2.turned (t' := s2.toks) (fun b o hb e => (sb3.2 b hb).trans e) f0 f1 f3 f4 f5, q⟩
end
/-- over a list or a tuple, its turns making new things -/
abbrev DcR (g : TG) (tt : TT) (tk tv : TE) (vs : List Nat) (σ : L2.St) (Q : Addr → Hp → Prop) : It → Hp → Prop := fun J H1 => ∀ D, H1 D = none → ∃ W : Nat → Nat → Hp → Prop, (∃ m, W 0 m (upd H1 D (.dK []))) ∧ ∀ i m H, W i m H →
  (J.stop i H ∧ Q D H) ∨ (J.go i H ∧ ∃ Nx : Hp → Prop, (∀ H', Nx H' → ∃ m', m' < m ∧ W (i + 1) m' H') ∧ ∀ x H', J.yld i H x H' → g x (wipe σ vs) H' fun σ2 H2 => wipe σ2 vs = wipe σ vs ∧ tt σ2 H2 fun b H3 =>
    if b = true then tk σ2 H3 fun y H4 => tv σ2 H4 fun z H5 => ∃ kvs k, y = kV k ∧ H5 D = some (.dK kvs) ∧ kvs.length < sizeLine ∧ Nx (upd H5 D (.dK (putK kvs k z))) else Nx H3)
theorem dc_it {J : It} {n : Nat} {G : Hp → Prop} {Y : Nat → Hp → V → Hp → Prop} (w : Walk J n G Y) {g : TG} {tt : TT} {tk tv : TE} {vs : List Nat} {σ : L2.St} {H1 : Hp} {D : Addr} {Qd : Hp → Prop} (Pv : Nat → Hp → Prop) (h0 : Pv 0 (upd H1 D (.dK []))) (hG : ∀ i H, i ≤ n → Pv i H → G H)
    (hs : ∀ i x H H', i < n → Pv i H → Y i H x H' → g x (wipe σ vs) H' fun σ2 H2 => wipe σ2 vs = wipe σ vs ∧ tt σ2 H2 fun b H3 =>
      if b = true then tk σ2 H3 fun y H4 => tv σ2 H4 fun z H5 => ∃ kvs k, y = kV k ∧ H5 D = some (.dK kvs) ∧ kvs.length < sizeLine ∧ Pv (i + 1) (upd H5 D (.dK (putK kvs k z))) else Pv (i + 1) H3)
    (hd : ∀ H, Pv n H → Qd H) :
    ∃ W : Nat → Nat → Hp → Prop, (∃ m, W 0 m (upd H1 D (.dK []))) ∧ ∀ i m H, W i m H →
      (J.stop i H ∧ Qd H) ∨ (J.go i H ∧ ∃ Nx : Hp → Prop, (∀ H', Nx H' → ∃ m', m' < m ∧ W (i + 1) m' H') ∧ ∀ x H', J.yld i H x H' → g x (wipe σ vs) H' fun σ2 H2 => wipe σ2 vs = wipe σ vs ∧ tt σ2 H2 fun b H3 =>
        if b = true then tk σ2 H3 fun y H4 => tv σ2 H4 fun z H5 => ∃ kvs k, y = kV k ∧ H5 D = some (.dK kvs) ∧ kvs.length < sizeLine ∧ Nx (upd H5 D (.dK (putK kvs k z))) else Nx H3) := by
  refine ⟨fun i m H => m = n - i ∧ i ≤ n ∧ Pv i H, ⟨n, by simp, Nat.zero_le _, h0⟩, ?_⟩
  rintro i m H ⟨rfl, hi, p⟩
  have q := hG i H hi p
  by_cases hlt : i < n
  · refine .inr ⟨w.goes i H hlt q, Pv (i + 1), fun H' p' => ⟨n - (i + 1), by omega, rfl, hlt, p'⟩, fun x H' y => hs i x H H' hlt p (w.yields i H x H' hlt q y)⟩
  · have e : i = n := by omega
    subst e
    exact .inl ⟨w.stops H q, hd H p⟩
theorem dc_seqS {K : PySem.W.Frag} {H1 : Hp} {a : Addr} {xs : List V} {g : TG} {tt : TT} {tk tv : TE} {vs : List Nat} {σ : L2.St} {Q : Addr → Hp → Prop} (h : Sq K H1 a xs) (P : Addr → Nat → Hp → Prop) (h0 : ∀ D, H1 D = none → P D 0 (upd H1 D (.dK [])))
    (hs : ∀ D i H, P D i H → Same H1 H)
    (turn : ∀ D, H1 D = none → ∀ i x H, xs[i]? = some x → P D i H → g x (wipe σ vs) H fun σ2 H2 => wipe σ2 vs = wipe σ vs ∧ tt σ2 H2 fun b H3 =>
      if b = true then tk σ2 H3 fun y H4 => tv σ2 H4 fun z H5 => ∃ kvs k, y = kV k ∧ H5 D = some (.dK kvs) ∧ kvs.length < sizeLine ∧ P D (i + 1) (upd H5 D (.dK (putK kvs k z))) else P D (i + 1) H3)
    (fin : ∀ D H, H1 D = none → P D xs.length H → Q D H) :
    ((∃ xs, SqL K H1 a xs) ∧ DcR g tt tk tv vs σ Q (Itl K a) H1) ∨ ((∃ xs, SqT K H1 a xs) ∧ DcR g tt tk tv vs σ Q (Itt K a) H1) := by
  refine seq_by (R := DcR g tt tk tv vs σ Q) h fun J G w g0 D nD => ?_
  refine dc_it w (P D) (h0 D nD) (fun i H _ p => g0 H (hs D i H p)) ?_ (fun H p => fin D H nD p)
  rintro i x H2 H3 hi p ⟨rfl, hx⟩
  exact turn D nD i x H3 hx p
end Rt
end
section
set_option Elab.async false
set_option linter.all false
set_option maxRecDepth 100000
set_option maxHeartbeats 4000000
/-! told: what explains the answers of a skill -/
namespace Rt
open PySem PySem.Spec PyProof.Rows L2
def PaT (H : Hp) (x : V) (p : List Str × Bool) : Prop := ∃ q r, x = .ref q ∧ H q = some (.tup [.ref r, .bl p.2]) ∧ H r = some (.tup (p.1.map V.str))
theorem pat_mono : TkMono PaT := fun H H' x p k ⟨q, r, e, h1, h2⟩ => ⟨q, r, e, k _ _ h1, k _ _ h2⟩
def spExpl (K : PySem.W.Frag) : Sp := fun vs H Q _ => ∃ (wa sa : Addr) (b : List Str) (z : Str) (xs : List V) (as : List An), vs = [.ref wa, .ref sa, .str z] ∧ Sq K H wa (b.map V.str) ∧ b.length ≤ 60 ∧ Sq K H sa xs ∧ Paired (AnT H) xs as ∧ as.length ≤ 60 ∧ ∀ H', Same H H' → Q (.bl (explB b as z)) H'
def spMost (K : PySem.W.Frag) : Sp := fun vs H Q _ => ∃ (n sa : Addr) (ns : List Str) (z : Str) (xs : List V) (as : List An), vs = [.ref n, .ref sa, .str z] ∧ Sq K H n (ns.map V.str) ∧ ns.length ≤ 60 ∧ Sq K H sa xs ∧ Paired (AnT H) xs as ∧ as.length ≤ 60 ∧ ∀ p H', Same H H' → H' p = some (.tup ((mostW ns as z).map V.str)) → Q (.ref p) H'
section
variable {P : Program} {w : World} {K : PySem.W.Frag} {mg : Str → Option Value} {base : Heap}
theorem cal_is_explained (Z : All K mg) : Cal P w K mg base CX0 1 "is_explained" ["want", "seen", "skill"] (spExpl K) := by
  obtain ⟨fd, F⟩ := Z.f_is_explained
  refine .of ⟨fd, F, ok0 F sc_is_explained (fun vs H Q E h => ?_) (fun cdv A outer s H vs Q E hr h => ?_)⟩ Z.g_is_explained (fun _ _ _ _ _ _ us hl => match us, hl with | [_, _, _], _ => rfl)
  · obtain ⟨wa, sa, b, z, xs, as, rfl, _⟩ := h
    rfl
  · obtain ⟨wa, sa, b, z, xs, as, rfl, hw, lb, hs, ps, la, k⟩ := h
    refine ⟨_, (pss_cons (ps_setLc (i := 3) (own := [("build", 4), ("asked", 5), ("let", 6)]) (by rfl) sc_is_explained.nd rfl rfl (sw_true rfl rfl rfl (by decide +kernel)) (pi_seq (pv 1)) (blkOk_by (own := [("build", 4), ("asked", 5), ("let", 6)]) (N := ["want", "seen", "skill", "answers", "build", "asked", "let", "name"]) (sc := defScope s_is_explained) (by decide +kernel)) (fun _ _ _ _ _ => (pg_tupK (K := K) (n := 3) rfl rfl (pgs_cons (pg_name (i := 4) sc_is_explained.nd rfl (Or.inl rfl)) (pgs_cons (pg_name (i := 5) sc_is_explained.nd rfl (Or.inl rfl)) (pgs_cons (pg_name (i := 6) sc_is_explained.nd rfl (Or.inl rfl)) pgs_nil))))) (fun _ _ _ _ _ => (pts_one (pt_cmpR op_eq (pv 5) (pv 2) (nomark _)))) (fun _ _ _ _ _ => (pe_tup (pa_cons (pv 4) (pa_cons (pv 6) pa_nil)))))
      (pss_one (ps_ret (pe_callB (cr_all rfl) (by rfl) Z.b_all boot_all (pa_cons (pe_lc (own := [("build", 4), ("let", 6)]) (by rfl) sc_is_explained.nd (pi_seq (pv 3)) (blkOk_by (own := [("build", 4), ("let", 6)]) (N := ["want", "seen", "skill", "answers", "build", "asked", "let", "name"]) (sc := defScope s_is_explained) (by decide +kernel)) (fun _ _ _ _ _ => (pg_tupK (K := K) (n := 2) rfl rfl (pgs_cons (pg_name (i := 4) sc_is_explained.nd rfl (Or.inr rfl)) (pgs_cons (pg_name (i := 6) sc_is_explained.nd rfl (Or.inl rfl)) pgs_nil)))) (fun _ _ _ _ _ => pts_nil) (fun _ _ _ _ _ => (pe_cmpR op_eq (pv 6) (pe_callB (show CallR _ _ (rAll K) from (cr_all rfl)) (by rfl) Z.b_all boot_all (pa_cons (pe_lc (own := [("name", 7)]) (by rfl) sc_is_explained.nd (pi_seqK (K := K) rfl (pv 0)) (by refine blkOk_by (own := [("name", 7)]) (N := ["want", "seen", "skill", "answers", "build", "asked", "let", "name"]) ?_; rfl) (fun _ _ _ _ _ => (pg_name (i := 7) sc_is_explained.nd rfl (Or.inl rfl))) (fun _ _ _ _ _ => pts_nil) (fun _ _ _ _ _ => (pe_cmpR (show OpR _ (compareOp .In) (rIn K false) from op_in_seq) (pv 7) (pv 4) rfl))) pa_nil)) (nomark _)))) pa_nil))))), ?_⟩
    have lx : xs.length = as.length := Paired.length ps
    refine ⟨_, rfl, sa, rfl, lc_new hs PaT (fun i => ((as.take i).filter fun a => decide (a.skill = z)).map fun a => (a.build, a.lets)) rfl (fun D nD i y Hy hi' p => ?_) fun T H1 ys nT s1 hT pT => ?_⟩
    · obtain ⟨a, ha, q, r, rfl, hq, hr'⟩ := paired_at ps hi'
      have hq2 := p.same _ _ hq
      have hr2 := p.same _ _ hr'
      refine ⟨q, _, rfl, SqT.of hq2, rfl, _, _, rfl, _, _, rfl, _, _, rfl, rfl, rfl, _, rfl, _, rfl, rfl, _, rfl, ?_⟩
      by_cases e : a.skill = z
      · refine ifT (decide_eq_true (by rw [e])) ⟨_, rfl, _, rfl, (by show 2 ≤ sizeLine; decide), fun t nt => ?_⟩
        refine (p.ext pat_mono (Same.new nt)).put pat_mono nD ⟨t, r, rfl, upd_same, Same.new nt _ _ hr2⟩ (filt_one (fun a : An => (a.build, a.lets)) _ ha (decide_eq_true e)) (line_of (m := 60) ?_ (by decide))
        rw [List.length_map]
        exact Nat.le_trans (List.length_filter_le _ _) (Nat.le_trans (List.length_take_le' _ _) la)
      · exact ifF (decide_eq_false (by intro q; injection q with q; exact e q)) (p.skip (filt_no (fun a : An => (a.build, a.lets)) _ ha (decide_eq_false e)))
    · rw [lx, List.take_length] at pT
      obtain ⟨prs, eprs⟩ : ∃ prs, prs = (as.filter fun a => decide (a.skill = z)).map fun a => (a.build, a.lets) := ⟨_, rfl⟩
      rw [← eprs] at pT
      have lp : prs.length ≤ 60 := by
        rw [eprs, List.length_map]
        exact Nat.le_trans (List.length_filter_le _ _) la
      have ly : ys.length = prs.length := Paired.length pT
      have hw1 := hw.same s1
      refine ⟨_, rfl, T, rfl, lc_seq (.inl (SqL.of hT)) (fun i => (prs.take i).map fun p => V.bl (decide (p.2 = b.all fun y => decide (y ∈ p.1)))) rfl (fun D nD i y Hy hi' p => ?_) fun D H3 nD s3 at3 => ?_⟩
      · obtain ⟨pr, hpr, q, r, rfl, hq, hr'⟩ := paired_at pT hi'
        have hq2 := p.same _ _ hq
        have hr2 := p.same _ _ hr'
        refine ⟨q, _, rfl, SqT.of hq2, rfl, _, _, rfl, _, _, rfl, rfl, rfl, _, rfl, _, rfl, wa, rfl, lc_seq (hw1.same p.same) (fun i => (b.take i).map fun y => V.bl (decide (y ∈ pr.1))) rfl (fun D2 nD2 j y2 Hy2 hj p2 => ?_) fun D2 H5 nD2 s5 at5 => ?_⟩
        · obtain ⟨y3, rfl, hy3⟩ := strs_get hj
          refine ⟨rfl, _, rfl, _, rfl, r, _, rfl, .inr (SqT.of (p2.same _ _ hr2)), rfl, flat_strsV _, ?_⟩
          rw [inV_strs]
          exact p2.put nD2 (map_one _ hy3) (take_line _ lb (by decide))
        · rw [List.length_map, List.take_length] at at5
          refine ⟨D2, b.map fun y => decide (y ∈ pr.1), rfl, SqL.of (by rw [at5, List.map_map]; rfl), rfl, ?_⟩
          have e1 : (b.map fun y => decide (y ∈ pr.1)).all id = b.all fun y => decide (y ∈ pr.1) := by simp [List.all_map]
          rw [e1]
          have e2 : decide (V.bl pr.2 = V.bl (b.all fun y => decide (y ∈ pr.1))) = decide (pr.2 = b.all fun y => decide (y ∈ pr.1)) := by
            rw [decide_eq_decide]
            exact ⟨fun h => by injection h, fun h => by rw [h]⟩
          rw [e2]
          exact (p.ext s5).put nD (map_one _ hpr) (take_line _ lp (by decide))
      · rw [ly, List.take_length] at at3
        refine ⟨D, prs.map fun p => decide (p.2 = b.all fun y => decide (y ∈ p.1)), rfl, SqL.of (by rw [at3, List.map_map]; rfl), ?_⟩
        have e1 : explB b as z = (prs.map fun p => decide (p.2 = b.all fun y => decide (y ∈ p.1))).all id := by
          rw [eprs]
          unfold explB
          simp [List.all_map]
        rw [← e1]
        exact k _ (s1.trans s3)
theorem cal_most_wanted (Z : All K mg) : Cal P w K mg base CX0 1 "most_wanted" ["names", "seen", "skill"] (spMost K) := by
  obtain ⟨fd, F⟩ := Z.f_most_wanted
  refine .of ⟨fd, F, ok0 F sc_most_wanted (fun vs H Q E h => ?_) (fun cdv A outer s H vs Q E hr h => ?_)⟩ Z.g_most_wanted (fun _ _ _ _ _ _ us hl => match us, hl with | [_, _, _], _ => rfl)
  · obtain ⟨n, sa, ns, z, xs, as, rfl, _⟩ := h
    rfl
  · obtain ⟨n, sa, ns, z, xs, as, rfl, hn, ln, hs, ps, la, k⟩ := h
    refine ⟨_, (pss_cons (ps_set (i := 3) sc_most_wanted.nd rfl (Or.inr rfl) (pe_lc (own := [("build", 4), ("asked", 5), ("let", 6)]) (by rfl) sc_most_wanted.nd (pi_seq (pv 1)) (blkOk_by (own := [("build", 4), ("asked", 5), ("let", 6)]) (N := ["names", "seen", "skill", "builds", "build", "asked", "let", "name"]) (sc := defScope s_most_wanted) (by decide +kernel)) (fun _ _ _ _ _ => (pg_tupK (K := K) (n := 3) rfl rfl (pgs_cons (pg_name (i := 4) sc_most_wanted.nd rfl (Or.inl rfl)) (pgs_cons (pg_name (i := 5) sc_most_wanted.nd rfl (Or.inl rfl)) (pgs_cons (pg_name (i := 6) sc_most_wanted.nd rfl (Or.inl rfl)) pgs_nil))))) (fun _ _ _ _ _ => (pts_one (PW.pt (pw_and (pt_cmpR op_eq (pv 5) (pv 2) (nomark _)) (pw_and1 (pt_val (pv 6))))))) (fun _ _ _ _ _ => (pv 4))))
      (pss_one (ps_ret (pe_callTy call_tuple_of (by rfl) Z.b_tuple PyProof.Rows.boot_tuple (pa_cons (pe_lc (own := [("name", 7)]) (by rfl) sc_most_wanted.nd (pi_seq (pv 0)) (blkOk_by (own := [("name", 7)]) (N := ["names", "seen", "skill", "builds", "build", "asked", "let", "name"]) (sc := defScope s_most_wanted) (by decide +kernel)) (fun _ _ _ _ _ => (pg_name (i := 7) sc_most_wanted.nd rfl (Or.inr rfl))) (fun _ _ _ _ _ => (pts_one (PW.pt (pw_and (pt_cmpR op_ne (pv 7) (pv 2) (nomark _)) (pw_and1 (pt_val (pe_callB (show CallR _ _ (rAll K) from (cr_all rfl)) (by rfl) Z.b_all boot_all (pa_cons (pe_lc (own := [("build", 4)]) (by rfl) sc_most_wanted.nd (pi_seqK (K := K) rfl (pv 3)) (by refine blkOk_by (own := [("build", 4)]) (N := ["names", "seen", "skill", "builds", "build", "asked", "let", "name"]) ?_; rfl) (fun _ _ _ _ _ => (pg_name (i := 4) sc_most_wanted.nd rfl (Or.inl rfl))) (fun _ _ _ _ _ => pts_nil) (fun _ _ _ _ _ => (pe_cmpR (show OpR _ (compareOp .In) (rIn K false) from op_in_seq) (pv 7) (pv 4) rfl))) pa_nil)))))))) (fun _ _ _ _ _ => (pv 7))) pa_nil))))), ?_⟩
    have lx : xs.length = as.length := Paired.length ps
    refine ⟨_, rfl, sa, rfl, lc_new hs BT (fun i => ((as.take i).filter fun a => decide (a.skill = z) && a.lets).map fun a => a.build) rfl (fun D nD i y Hy hi' p => ?_) fun T H1 ys nT s1 hT pT => ?_⟩
    · obtain ⟨a, ha, q, r, rfl, hq, hr'⟩ := paired_at ps hi'
      have hq2 := p.same _ _ hq
      have hr2 := p.same _ _ hr'
      refine ⟨q, _, rfl, SqT.of hq2, rfl, _, _, rfl, _, _, rfl, _, _, rfl, rfl, rfl, _, rfl, _, rfl, rfl, _, rfl, ?_⟩
      have pick : a.skill = z → a.lets = true → ∃ acc, Hy D = some (.lst acc) ∧ acc.length < sizeLine ∧ LcN H D BT (fun i => ((as.take i).filter fun a => decide (a.skill = z) && a.lets).map fun a => a.build) (i + 1) (upd Hy D (.lst (acc ++ [.ref r]))) := fun e l => by
        refine p.put bt_mono nD ⟨r, rfl, hr2⟩ (filt_one (fun a : An => a.build) _ ha (by rw [decide_eq_true e, l]; rfl)) (line_of (m := 60) ?_ (by decide))
        rw [List.length_map]
        exact Nat.le_trans (List.length_filter_le _ _) (Nat.le_trans (List.length_take_le' _ _) la)
      by_cases e : a.skill = z
      · refine ifT (decide_eq_true (by rw [e])) ⟨_, rfl, _, rfl, ?_⟩
        cases l : a.lets with
        | true => exact ifT rfl ⟨_, rfl, pick e l⟩
        | false => exact ifF rfl (p.skip (filt_no (fun a : An => a.build) _ ha (by rw [l, Bool.and_false])))
      · exact ifF (decide_eq_false (by intro q; injection q with q; exact e q)) (p.skip (filt_no (fun a : An => a.build) _ ha (by rw [decide_eq_false e]; rfl)))
    · rw [lx, List.take_length] at pT
      obtain ⟨bs, ebs⟩ : ∃ bs, bs = (as.filter fun a => decide (a.skill = z) && a.lets).map fun a => a.build := ⟨_, rfl⟩
      rw [← ebs] at pT
      have lp : bs.length ≤ 60 := by
        rw [ebs, List.length_map]
        exact Nat.le_trans (List.length_filter_le _ _) la
      have ly : ys.length = bs.length := Paired.length pT
      have el : ∀ y, letAll as z y = bs.all fun b => decide (y ∈ b) := fun y => by
        rw [ebs]
        unfold letAll
        simp [List.all_map]
      have hn1 := hn.same s1
      refine ⟨_, rfl, n, rfl, lc_seq hn1 (fun i => ((ns.take i).filter fun y => !decide (y = z) && letAll as z y).map V.str) rfl (fun D nD i y Hy hi' p => ?_) fun D H3 nD s3 at3 => ?_⟩
      · obtain ⟨y, rfl, hy⟩ := strs_get hi'
        refine ⟨rfl, _, rfl, _, rfl, rfl, _, rfl, ?_⟩
        by_cases e : y = z
        · exact ifF (by rw [decide_eq_true (by rw [e])]; rfl) (p.skip (filt_no V.str _ hy (by rw [decide_eq_true e]; rfl)))
        · refine ifT (by rw [decide_eq_false (by intro q; injection q with q; exact e q)]; rfl) ⟨_, rfl, T, rfl, lc_seq (.inl (SqL.of (p.same _ _ hT))) (fun i => (bs.take i).map fun b => V.bl (decide (y ∈ b))) rfl (fun D2 nD2 j y2 Hy2 hj p2 => ?_) fun D2 H5 nD2 s5 at5 => ?_⟩
          · obtain ⟨b, hb, r, rfl, hr'⟩ := paired_at pT hj
            refine ⟨rfl, _, rfl, _, rfl, r, _, rfl, .inr (SqT.of (p2.same _ _ (p.same _ _ hr'))), rfl, flat_strsV _, ?_⟩
            rw [inV_strs]
            exact p2.put nD2 (map_one _ hb) (take_line _ lp (by decide))
          · rw [ly, List.take_length] at at5
            refine ⟨D2, bs.map fun b => decide (y ∈ b), rfl, SqL.of (by rw [at5, List.map_map]; rfl), _, rfl, ?_⟩
            have e1 : (bs.map fun b => decide (y ∈ b)).all id = letAll as z y := by
              rw [el]
              simp [List.all_map]
            rw [e1]
            refine ifB (fun c => ?_) (fun c => ?_)
            · refine ⟨_, rfl, (p.ext s5).put nD (filt_one V.str _ hy (by rw [decide_eq_false e, c]; rfl)) (line_of (m := 60) ?_ (by decide))⟩
              rw [List.length_map]
              exact Nat.le_trans (List.length_filter_le _ _) (Nat.le_trans (List.length_take_le' _ _) ln)
            · exact (p.ext s5).skip (filt_no V.str _ hy (by rw [c, Bool.and_false]))
      · rw [List.length_map, List.take_length] at at3
        exact ⟨D, _, rfl, .inl ⟨SqL.of at3, fun t nt => k t _ ((s1.trans s3).trans (Same.new nt)) upd_same⟩⟩
end
end Rt
end
section
set_option Elab.async false
set_option linter.all false
set_option maxRecDepth 100000
set_option maxHeartbeats 4000000
/-! told: wants of all skills -/
namespace Rt
open PySem PySem.Spec PyProof.Rows L2
/-- a dict from each of some names to a value, in their order -/
structure DW (K : PySem.W.Frag) (H : Hp) (d : Addr) (ns : List Str) (m : Str → Option (List V)) : Prop where
  ex : ∃ kvs : List (Key × V), H d = some (.dK kvs) ∧ kvs.map (·.1) = ns.map Sum.inr ∧ ∀ z ∈ ns, ∃ v, valV kvs (.inr z) = some v ∧ Ov K H v (m z)
theorem DW.same {K : PySem.W.Frag} {H H' : Hp} {d : Addr} {ns : List Str} {m : Str → Option (List V)} (h : DW K H d ns m) (s : Same H H') : DW K H' d ns m := by
  obtain ⟨kvs, e, hk, hv⟩ := h.ex
  exact ⟨kvs, s _ _ e, hk, fun z hz => let ⟨v, h1, h2⟩ := hv z hz; ⟨v, h1, h2.same s⟩⟩
def hasO (z : Str) : Option (List V) → Bool
  | none => false
  | some xs => decide (z ∈ strsOf xs)
def awa (ns : List Str) (m : Str → Option (List V)) : Bool := ns.all fun z => ordO ns (m z) && !hasO z (m z)
theorem Sq.lock {K : PySem.W.Frag} {H : Hp} {a d : Addr} {xs : List V} {kvs : List (Key × V)} {o : HO} (h : Sq K H a xs) (hd : H d = some (.dK kvs)) : Sq K (upd H d o) a xs := by
  have go : ∀ {u : HO}, H a = some u → u ≠ .dK kvs → upd H d o a = some u := fun {u} e n => by
    rw [upd_ne (ne_of e hd n)]
    exact e
  rcases h with ((h | ⟨f, h⟩) | h) | ((h | ⟨f, h⟩) | h)
  · exact .inl (.inl (.inl (go h (by intro z; cases z))))
  · exact .inl (.inl (.inr ⟨f, go h (by intro z; cases z)⟩))
  · exact .inl (.inr h)
  · exact .inr (.inl (.inl (go h (by intro z; cases z))))
  · exact .inr (.inl (.inr ⟨f, go h (by intro z; cases z)⟩))
  · exact .inr (.inr h)
theorem lock_same {H H' : Hp} {d : Addr} {u o : HO} (hd : H d = some u) (s : Same (upd H d o) H') : Same H (upd H' d u) := fun b v hb => by
  by_cases e : b = d
  · subst e
    rw [hd] at hb
    rw [upd_same]
    exact hb
  · rw [upd_ne e]
    exact s _ _ (by rw [upd_ne e]; exact hb)
def spAwa (K : PySem.W.Frag) : Sp := fun vs H Q _ => ∃ (n d : Addr) (ns : List Str) (m : Str → Option (List V)), vs = [.ref n, .ref d] ∧ Sq K H n (ns.map V.str) ∧ ns.length ≤ 60 ∧ Oks ns ∧ DW K H d ns m ∧ ∀ H', Same H H' → Q (.bl (awa ns m)) H'
section
variable {P : Program} {w : World} {K : PySem.W.Frag} {mg : Str → Option Value} {base : Heap}
theorem cal_are_wants_of_all (Z : All K mg) : Cal P w K mg base CX0 4 "are_wants_of_all" ["names", "value"] (spAwa K) := by
  obtain ⟨fd, F⟩ := Z.f_are_wants_of_all
  have C_is_one_of : Cal P w K mg base CX0 1 "is_one_of" ["names", "value"] (spOne K) := cal_is_one_of Z
  have C_is_ordered : Cal P w K mg base CX0 3 "is_ordered" ["names", "value"] (spOrd K) := cal_is_ordered Z
  refine .of ⟨fd, F, ok0 F sc_are_wants_of_all (fun vs H Q E h => ?_) (fun cdv A outer s H vs Q E hr h => ?_)⟩ Z.g_are_wants_of_all (fun _ _ _ _ _ _ us hl => match us, hl with | [_, _], _ => rfl)
  · obtain ⟨n, d, ns, m, rfl, _⟩ := h
    rfl
  · obtain ⟨n, d, ns, m, rfl, hn, ln, oks, dw, k⟩ := h
    refine ⟨_, (pss_cons (ps_if (PW.pt (pw_or (pt_not (pt_val (pe_callB (call_is (cn := "dict") (by decide)) (by rfl) Z.b_isinstance boot_isinstance (pa_cons (pv 1) (pa_cons (pe_bltn (v := .ty "dict") (by rfl) Z.b_dict PyProof.Rows.boot_dict rfl) pa_nil))))) (pw_or1 (pt_cmpR op_ne (pe_callB call_lenD (by rfl) Z.b_len PySem.boot_len (pa_cons (pv 1) pa_nil)) (pe_callB call_len (by rfl) Z.b_len PySem.boot_len (pa_cons (pv 0) pa_nil)) (nomark _))))) (pss_one (ps_ret pe_bl)) pss_nil)
      (pss_cons (ps_if (pt_not (pt_val (pe_callB (cr_all rfl) (by rfl) Z.b_all boot_all (pa_cons (pe_lock (pe_lc (own := [("skill", 2)]) (by rfl) sc_are_wants_of_all.nd (pi_keys (pv 1)) (blkOk_by (own := [("skill", 2)]) (N := ["names", "value", "skill"]) (sc := defScope s_are_wants_of_all) (by decide +kernel)) (fun _ _ _ _ _ => (pg_name (i := 2) sc_are_wants_of_all.nd rfl (Or.inl rfl))) (fun _ _ _ _ _ => pts_nil) (fun _ _ _ _ _ => (pe_cal C_is_one_of (hr.mono (by decide)) (by rfl) pass0 (pa_cons (pv 0) (pa_cons (pv 2) pa_nil)))))) pa_nil)))) (pss_one (ps_ret pe_bl)) pss_nil)
      (pss_one (ps_ret (pe_callB (cr_all rfl) (by rfl) Z.b_all boot_all (pa_cons (pe_lc (own := [("skill", 2)]) (by rfl) sc_are_wants_of_all.nd (pi_seq (pv 0)) (blkOk_by (own := [("skill", 2)]) (N := ["names", "value", "skill"]) (sc := defScope s_are_wants_of_all) (by decide +kernel)) (fun _ _ _ _ _ => (pg_name (i := 2) sc_are_wants_of_all.nd rfl (Or.inl rfl))) (fun _ _ _ _ _ => pts_nil) (fun _ _ _ _ _ => (pe_and (pe_cal C_is_ordered (hr.mono (by decide)) (by rfl) pass0 (pa_cons (pv 0) (pa_cons (pe_dget (hu_of hr) (pv 1) (pv 2) (fun _ _ => rfl)) pa_nil))) (pe_one (pe_cmpR (show OpR _ (compareOp .NotIn) (rIn K true) from op_notIn_seq) (pv 2) (pe_dget (hu_of hr) (pv 1) (pv 2) (fun _ _ => rfl)) rfl))))) pa_nil)))))), ?_⟩
    obtain ⟨kvs, hd, hk, hv⟩ := dw.ex
    have lk : kvs.length = ns.length := by
      have := congrArg List.length hk
      rw [List.length_map, List.length_map] at this
      exact this
    refine ⟨_, rfl, .ref d, "dict", rfl, .dct hd, _, rfl, ifF (by decide) ⟨_, rfl, d, kvs, rfl, hd, _, rfl, _, (ns.map V.str).length, rfl, lenV_sq hn, rfl, _, rfl, ?_⟩⟩
    rw [List.length_map, lk]
    refine ifF (by rw [decide_eq_true rfl]; rfl) ?_
    refine ⟨d, .dK kvs, hd, trivial, fun od => ⟨_, rfl, d, od, rfl, .inl ⟨kvs, upd_same, fun D nD => ?_⟩⟩⟩
    have hnL := hn.lock (o := .frz od (.dK kvs)) hd
    refine lc_it walk_keys (LcP (upd H d (.frz od (.dK kvs))) D fun i => (kvs.take i).map fun _ => V.bl true) (LcP.zero nD rfl) (fun i H2 _ p => p.same _ _ upd_same) ?_ ?_
    · rintro i x H2 H3 hi p ⟨rfl, ky, v, hkv, rfl⟩
      have hz : (ns.map (Sum.inr : Str → Key))[i]? = some ky := by
        rw [← hk, List.getElem?_map, hkv]
        rfl
      rw [List.getElem?_map] at hz
      cases q : ns[i]? with
      | none => rw [q] at hz; cases hz
      | some z =>
        rw [q] at hz
        cases hz
        refine ⟨rfl, _, rfl, _, rfl, n, ns, .str z, "str", rfl, hnL.same p.same, .str _, ?_⟩
        have e1 : isOne ns (.str z) = true := decide_eq_true (List.mem_of_getElem? q)
        rw [e1]
        exact p.put nD (map_one _ hkv) (take_line _ (m := 60) (by omega) (by decide))
    · intro H2 p
      have p2 := p.at_
      rw [List.take_length] at p2
      refine ⟨p.same _ _ upd_same, ?_⟩
      have s2 := lock_same hd p.same
      obtain ⟨H3, e3⟩ : ∃ H3, H3 = upd H2 d (.dK kvs) := ⟨_, rfl⟩
      have nDd : D ≠ d := fun e => by
        rw [e, upd_same] at nD
        cases nD
      have p3 : H3 D = some (.lst (kvs.map fun _ => V.bl true)) := by
        rw [e3, upd_ne nDd]
        exact p2
      rw [← e3] at s2 ⊢
      refine ⟨D, kvs.map fun _ => true, rfl, SqL.of (by rw [p3, List.map_map]; rfl), _, rfl, ?_⟩
      rw [all_trues (fun _ _ => rfl)]
      refine ifF rfl ?_
      have hn3 := hn.same s2
      have hd3 := s2 _ _ hd
      refine ⟨_, rfl, n, rfl, lc_seq hn3 (fun i => (ns.take i).map fun z => V.bl (ordO ns (m z) && !hasO z (m z))) rfl (fun T nT i y Hy hi' p => ?_) fun T H5 nT s5 at5 => ?_⟩
      · obtain ⟨z, rfl, hz⟩ := strs_get hi'
        obtain ⟨v, hv1, hv2⟩ := hv z (List.mem_of_getElem? hz)
        refine ⟨rfl, _, rfl, _, rfl, _, rfl, d, v, rfl, ?_, n, ns, v, m z, rfl, hn3.same p.same, ln, oks, hv2.same (s2.trans p.same), fun H6 s6 => ?_⟩
        · rw [← hv1]
          exact DGet.k (k := .inr z) (p.same _ _ hd3)
        · refine ⟨_, rfl, ?_⟩
          have put : ∀ b, b = (ordO ns (m z) && !hasO z (m z)) → ∃ acc, H6 T = some (.lst acc) ∧ acc.length < sizeLine ∧ LcP H3 T (fun i => (ns.take i).map fun z => V.bl (ordO ns (m z) && !hasO z (m z))) (i + 1) (upd H6 T (.lst (acc ++ [.bl b]))) := fun b e => by
            rw [e]
            exact (p.ext s6).put nT (map_one _ hz) (take_line _ ln (by decide))
          refine ifB (fun e => ?_) (fun e => ?_)
          · cases mz : m z with
            | none =>
              rw [mz] at e
              cases e
            | some xs =>
              rw [mz] at e hv2
              obtain ⟨b, rfl, hb, _, _⟩ := hv2
              have un : unlike ns xs = true := (Bool.and_eq_true_iff.mp e).1
              have back := (unlike_back un).1
              have hb6 := sqT_same ((s2.trans p.same).trans s6) hb
              rw [back] at hb6
              refine ⟨_, rfl, _, rfl, _, rfl, d, .ref b, rfl, ?_, b, _, rfl, .inr hb6, rfl, flat_strsV _, ?_⟩
              · rw [← hv1]
                exact DGet.k (k := .inr z) (s6 _ _ (p.same _ _ hd3))
              · rw [inV_strs]
                refine put _ ?_
                rw [mz, e, Bool.true_and]
                rfl
          · refine put _ ?_
            rw [e]
            rfl
      · rw [List.length_map, List.take_length] at at5
        refine ⟨T, ns.map fun z => (ordO ns (m z) && !hasO z (m z)), rfl, SqL.of (by rw [at5, List.map_map]; rfl), ?_⟩
        have e1 : (ns.map fun z => (ordO ns (m z) && !hasO z (m z))).all id = awa ns m := by
          unfold awa
          simp [List.all_map]
        rw [e1]
        exact k _ (s2.trans s5)
end
end Rt
end
section
set_option Elab.async false
set_option linter.all false
set_option maxRecDepth 100000
set_option maxHeartbeats 4000000
/-! told: explains, greatest_wants, may, must, next_ask -/
namespace Rt
open PySem PySem.Spec PyProof.Rows L2
def whyB (ns : List Str) (m : Str → Option (List V)) (as : List An) : Bool := awa ns m && ns.all fun z => explB (strsOf ((m z).getD [])) as z
def allB (ns : List Str) (as : List An) : Bool := ns.all fun z => explB (mostW ns as z) as z
def mayB (ns : List Str) (as : List An) (z : Str) : List Str := if allB ns as = true then mostW ns as z else []
/-- a dict from each of some names to a tuple of texts -/
def DM (H : Hp) (d : Addr) (ns : List Str) (f : Str → List Str) : Prop := ∃ kvs : List (Key × V), H d = some (.dK kvs) ∧ kvs.map (·.1) = ns.map Sum.inr ∧ ∀ z ∈ ns, ∃ r, valV kvs (.inr z) = some (.ref r) ∧ H r = some (.tup ((f z).map V.str))
theorem DM.same {H H' : Hp} {d : Addr} {ns : List Str} {f : Str → List Str} (h : DM H d ns f) (s : Same H H') : DM H' d ns f := by
  obtain ⟨kvs, e, hk, hv⟩ := h
  exact ⟨kvs, s _ _ e, hk, fun z hz => let ⟨r, h1, h2⟩ := hv z hz; ⟨r, h1, s _ _ h2⟩⟩
theorem DM.dw {K : PySem.W.Frag} {H : Hp} {d : Addr} {ns : List Str} {f : Str → List Str} (h : DM H d ns f) (l : ∀ z ∈ ns, (f z).length ≤ 60) : DW K H d ns fun z => some ((f z).map V.str) := by
  obtain ⟨kvs, e, hk, hv⟩ := h
  exact ⟨kvs, e, hk, fun z hz => let ⟨r, h1, h2⟩ := hv z hz; ⟨.ref r, h1, ov_tup h2 (l z hz)⟩⟩
theorem awa_of {ns : List Str} {f : Str → List Str} (nd : ns.Nodup) (h : ∀ z ∈ ns, (f z).Sublist ns ∧ z ∉ f z) : awa ns (fun z => some ((f z).map V.str)) = true := by
  unfold awa
  rw [List.all_eq_true]
  intro z hz
  obtain ⟨h1, h2⟩ := h z hz
  rw [ord_sub nd h1, Bool.true_and]
  show (!decide (z ∈ strsOf ((f z).map V.str))) = true
  rw [strsOf_map, decide_eq_false h2]
  rfl
theorem why_of {ns : List Str} {f : Str → List Str} {as : List An} (nd : ns.Nodup) (h : ∀ z ∈ ns, (f z).Sublist ns ∧ z ∉ f z) : whyB ns (fun z => some ((f z).map V.str)) as = ns.all fun z => explB (f z) as z := by
  unfold whyB
  rw [awa_of nd h, Bool.true_and]
  congr 1
  funext z
  show explB (strsOf ((f z).map V.str)) as z = _
  rw [strsOf_map]
theorem most_ok (ns : List Str) (as : List An) (z : Str) : (mostW ns as z).Sublist ns ∧ z ∉ mostW ns as z := ⟨List.filter_sublist, fun h => (mem_most.mp h).2.1 rfl⟩
theorem putK_new {kvs : List (Key × V)} {k : Key} {v : V} (h : k ∉ kvs.map (·.1)) : putK kvs k v = kvs ++ [(k, v)] := by
  unfold putK
  rw [if_neg]
  intro q
  obtain ⟨p, hp, e⟩ := List.any_eq_true.mp q
  exact h (by rw [← of_decide_eq_true e]; exact List.mem_map_of_mem hp)
theorem valV_none {kvs : List (Key × V)} {k : Key} (h : k ∉ kvs.map (·.1)) : valV kvs k = none := by
  cases e : valV kvs k with
  | none => rfl
  | some v =>
    have q := valV_any k kvs
    rw [e] at q
    obtain ⟨p, hp, e2⟩ := List.any_eq_true.mp q
    exact absurd (by rw [← of_decide_eq_true e2]; exact List.mem_map_of_mem hp) h
def spWhy (K : PySem.W.Frag) : Sp := fun vs H Q _ => ∃ (n d s : Addr) (ns : List Str) (m : Str → Option (List V)) (as : List An), vs = [.ref n, .ref d, .ref s] ∧ Told K H n ns s as ∧ DW K H d ns m ∧ ∀ H', Same H H' → Q (.bl (whyB ns m as)) H'
def GrV (H : Hp) (v : V) (ns : List Str) (as : List An) : Prop := (allB ns as = true → ∃ d, v = .ref d ∧ DM H d ns (mostW ns as)) ∧ (allB ns as = false → v = .non)
def spGreat (K : PySem.W.Frag) : Sp := fun vs H Q _ => ∃ (n s : Addr) (ns : List Str) (as : List An), vs = [.ref n, .ref s] ∧ Told K H n ns s as ∧ ∀ v H', Same H H' → GrV H' v ns as → Q v H'
def spMay (K : PySem.W.Frag) : Sp := fun vs H Q _ => ∃ (n s : Addr) (ns : List Str) (as : List An) (z : Str), vs = [.ref n, .ref s, .str z] ∧ Told K H n ns s as ∧ z ∈ ns ∧ ∀ p H', Same H H' → H' p = some (.lst ((mayB ns as z).map V.str)) → Q (.ref p) H'
def spMust (K : PySem.W.Frag) : Sp := fun vs H Q _ => ∃ (n s : Addr) (ns : List Str) (as : List An) (z : Str), vs = [.ref n, .ref s, .str z] ∧ Told K H n ns s as ∧ z ∈ ns ∧ ∀ p H', Same H H' → H' p = some (.lst ((mustB (mayB ns as z) as z).map V.str)) → Q (.ref p) H'
def spNext (K : PySem.W.Frag) : Sp := fun vs H Q _ => ∃ (n s : Addr) (ns : List Str) (as : List An) (z : Str), vs = [.ref n, .ref s, .str z] ∧ Told K H n ns s as ∧ z ∈ ns ∧ ∀ H', Same H H' → Q (.bl (!decide (mayB ns as z = mustB (mayB ns as z) as z))) H'
section
variable {P : Program} {w : World} {K : PySem.W.Frag} {mg : Str → Option Value} {base : Heap}
theorem cal_explains (Z : All K mg) : Cal P w K mg base CX0 7 "explains" ["names", "wants", "seen"] (spWhy K) := by
  obtain ⟨fd, F⟩ := Z.f_explains
  have C_must_be_seen : Cal P w K mg base CX0 6 "must_be_seen" ["names", "seen"] (spMbs K) := cal_must_be_seen Z
  have C_are_wants_of_all : Cal P w K mg base CX0 4 "are_wants_of_all" ["names", "value"] (spAwa K) := cal_are_wants_of_all Z
  have C_is_explained : Cal P w K mg base CX0 1 "is_explained" ["want", "seen", "skill"] (spExpl K) := cal_is_explained Z
  refine .of ⟨fd, F, ok0 F sc_explains (fun vs H Q E h => ?_) (fun cdv A outer s H vs Q E hr h => ?_)⟩ Z.g_explains (fun _ _ _ _ _ _ us hl => match us, hl with | [_, _, _], _ => rfl)
  · obtain ⟨n, d, sa, ns, m, as, rfl, _⟩ := h
    rfl
  · obtain ⟨n, d, sa, ns, m, as, rfl, td, dw, k⟩ := h
    refine ⟨_, (pss_cons (ps_expr (pe_cal C_must_be_seen (hr.mono (by decide)) (by rfl) pass0 (pa_cons (pv 0) (pa_cons (pv 2) pa_nil))))
      (pss_cons (ps_if (pt_not (pt_val (pe_cal C_are_wants_of_all (hr.mono (by decide)) (by rfl) pass0 (pa_cons (pv 0) (pa_cons (pv 1) pa_nil))))) (pss_one (ps_ret pe_bl)) pss_nil)
      (pss_one (ps_ret (pe_callB (cr_all rfl) (by rfl) Z.b_all boot_all (pa_cons (pe_lc (own := [("skill", 3)]) (by rfl) sc_explains.nd (pi_seq (pv 0)) (blkOk_by (own := [("skill", 3)]) (N := ["names", "wants", "seen", "skill"]) (sc := defScope s_explains) (by decide +kernel)) (fun _ _ _ _ _ => (pg_name (i := 3) sc_explains.nd rfl (Or.inl rfl))) (fun _ _ _ _ _ => pts_nil) (fun _ _ _ _ _ => (pe_cal C_is_explained (hr.mono (by decide)) (by rfl) pass0 (pa_cons (pe_dget (hu_of hr) (pv 1) (pv 3) (fun _ _ => rfl)) (pa_cons (pv 2) (pa_cons (pv 3) pa_nil)))))) pa_nil)))))), ?_⟩
    have l12 := td.nm.le
    refine ⟨_, rfl, _, rfl, n, ns, sa, as, rfl, td, fun H1 s1 => ?_⟩
    have td1 := td.same s1
    have dw1 := dw.same s1
    refine ⟨_, rfl, _, rfl, n, d, ns, m, rfl, td1.names.sq, by omega, td.nm.oks, dw1, fun H2 s2 => ⟨_, rfl, ?_⟩⟩
    refine ifB (fun e => ?_) (fun e => ?_)
    · have z : whyB ns m as = false := by
        rw [Bool.not_eq_true'] at e
        unfold whyB
        rw [e]
        rfl
      rw [z] at k
      exact k _ (s1.trans s2)
    · rw [Bool.not_eq_false'] at e
      have td2 := td1.same s2
      obtain ⟨kvs, hd, hk, hv⟩ := (dw1.same s2).ex
      obtain ⟨xs, hs, ps⟩ := td2.seen
      refine ⟨_, rfl, n, rfl, lc_seq td2.names.sq (fun i => (ns.take i).map fun z => V.bl (explB (strsOf ((m z).getD [])) as z)) rfl (fun T nT i y Hy hi' p => ?_) fun T H5 nT s5 at5 => ?_⟩
      · obtain ⟨z, rfl, hz⟩ := strs_get hi'
        have zin := List.mem_of_getElem? hz
        obtain ⟨v, hv1, hv2⟩ := hv z zin
        have oz := (Bool.and_eq_true_iff.mp (List.all_eq_true.mp e z zin)).1
        cases mz : m z with
        | none =>
          rw [mz] at oz
          cases oz
        | some ws =>
          rw [mz] at oz hv2
          obtain ⟨b, rfl, hb, _, hl⟩ := hv2
          have un : unlike ns ws = true := (Bool.and_eq_true_iff.mp oz).1
          have back := (unlike_back un).1
          have ll := (unlike_back un).2.2.2
          rw [back] at hb
          have lw : (strsOf ws).length ≤ 60 := by
            have := congrArg List.length back
            rw [List.length_map] at this
            omega
          refine ⟨rfl, _, rfl, _, rfl, d, .ref b, rfl, ?_, _, rfl, _, rfl, b, sa, strsOf ws, z, xs, as, rfl, .inr (sqT_same p.same hb), lw, hs.sq.same p.same, paired_mono (fun x w q => ant_mono _ _ _ _ (Tk.of p.same) q) ps, td.le, fun H6 s6 => ?_⟩
          · rw [← hv1]
            exact DGet.k (k := .inr z) (p.same _ _ hd)
          · have e2 : strsOf ws = strsOf ((m z).getD []) := by rw [mz]; rfl
            rw [e2]
            exact (p.ext s6).put nT (map_one _ hz) (take_line _ (m := 60) (by omega) (by decide))
      · rw [List.length_map, List.take_length] at at5
        refine ⟨T, ns.map fun z => explB (strsOf ((m z).getD [])) as z, rfl, SqL.of (by rw [at5, List.map_map]; rfl), ?_⟩
        have e1 : (ns.map fun z => explB (strsOf ((m z).getD [])) as z).all id = whyB ns m as := by
          unfold whyB
          rw [e, Bool.true_and]
          simp [List.all_map]
        rw [e1]
        exact k _ ((s1.trans s2).trans s5)
theorem cal_greatest_wants (Z : All K mg) : Cal P w K mg base CX0 8 "greatest_wants" ["names", "seen"] (spGreat K) := by
  obtain ⟨fd, F⟩ := Z.f_greatest_wants
  have C_must_be_seen : Cal P w K mg base CX0 6 "must_be_seen" ["names", "seen"] (spMbs K) := cal_must_be_seen Z
  have C_most_wanted : Cal P w K mg base CX0 1 "most_wanted" ["names", "seen", "skill"] (spMost K) := cal_most_wanted Z
  have C_explains : Cal P w K mg base CX0 7 "explains" ["names", "wants", "seen"] (spWhy K) := cal_explains Z
  refine .of ⟨fd, F, ok0 F sc_greatest_wants (fun vs H Q E h => ?_) (fun cdv A outer s H vs Q E hr h => ?_)⟩ Z.g_greatest_wants (fun _ _ _ _ _ _ us hl => match us, hl with | [_, _], _ => rfl)
  · obtain ⟨n, sa, ns, as, rfl, _⟩ := h
    rfl
  · obtain ⟨n, sa, ns, as, rfl, td, k⟩ := h
    refine ⟨_, (pss_cons (ps_expr (pe_cal C_must_be_seen (hr.mono (by decide)) (by rfl) pass0 (pa_cons (pv 0) (pa_cons (pv 1) pa_nil))))
      (pss_cons (ps_setDc (i := 2) (own := [("skill", 3)]) (by rfl) sc_greatest_wants.nd rfl rfl (sw_trueD rfl rfl rfl (by decide +kernel)) (pi_seq (pv 0)) (blkOk_by (own := [("skill", 3)]) (N := ["names", "seen", "wants", "skill"]) (sc := defScope s_greatest_wants) (by decide +kernel)) (fun _ _ _ _ _ => (pg_name (i := 3) sc_greatest_wants.nd rfl (Or.inl rfl))) (fun _ _ _ _ _ => pts_nil) (fun _ _ _ _ _ => (pv 3)) (fun _ _ _ _ _ => (pe_cal C_most_wanted (hr.mono (by decide)) (by rfl) pass0 (pa_cons (pv 0) (pa_cons (pv 1) (pa_cons (pv 3) pa_nil))))))
      (pss_one (ps_ret (pe_ifExp (pt_val (pe_cal C_explains (hr.mono (by decide)) (by rfl) pass0 (pa_cons (pv 0) (pa_cons (pv 2) (pa_cons (pv 1) pa_nil))))) (pv 2) pe_non))))), ?_⟩
    have l12 := td.nm.le
    refine ⟨_, rfl, _, rfl, n, ns, sa, as, rfl, td, fun H1 s1 => ?_⟩
    have td1 := td.same s1
    obtain ⟨xs, hs, ps⟩ := td1.seen
    refine ⟨_, rfl, n, rfl, dc_seqS td1.names.sq (fun D i H => Same H1 H ∧ ∃ kvs : List (Key × V), H D = some (.dK kvs) ∧ kvs.map (·.1) = (ns.take i).map Sum.inr ∧ ∀ z ∈ ns.take i, ∃ r, valV kvs (.inr z) = some (.ref r) ∧ H r = some (.tup ((mostW ns as z).map V.str)))
      (fun D nD => ⟨Same.new nD, [], upd_same, rfl, fun z hz => (nomatch hz)⟩) (fun D i H p => p.1) (fun D nD i y Hy hi' p => ?_) fun D H2 nD p => ?_⟩
    · obtain ⟨z, rfl, hz⟩ := strs_get hi'
      obtain ⟨sy, kvs, hD, hk, hv⟩ := p
      have ps2 : Paired (AnT Hy) xs as := paired_mono (fun x w q => ant_mono _ _ _ _ (Tk.of sy) q) ps
      refine ⟨rfl, _, rfl, _, rfl, _, rfl, _, rfl, n, sa, ns, z, xs, as, rfl, td1.names.sq.same sy, by omega, hs.sq.same sy, ps2, td.le, fun r H5 s5 hr5 => ?_⟩
      have tk1 : (ns.take (i + 1)) = ns.take i ++ [z] := take_one hz
      have nin : z ∉ ns.take i := fun q => by
        have nd : (ns.take i ++ [z]).Nodup := by
          rw [← tk1]
          exact td.nm.nd.sublist (List.take_sublist _ _)
        exact (List.nodup_append.mp nd).2.2 z q z List.mem_cons_self rfl
      have nk : (Sum.inr z : Key) ∉ kvs.map (·.1) := by
        rw [hk]
        intro q
        obtain ⟨y, hy, e⟩ := List.mem_map.mp q
        cases e
        exact nin hy
      have hD5 := s5 _ _ hD
      have lk : kvs.length ≤ 12 := by
        have := congrArg List.length hk
        rw [List.length_map, List.length_map] at this
        have q : (ns.take i).length ≤ ns.length := List.length_take_le' _ _
        omega
      refine ⟨kvs, .inr z, rfl, hD5, line_of lk (by decide), ?_⟩
      rw [putK_new nk]
      have tk : Tk H5 (upd H5 D (.dK (kvs ++ [(.inr z, .ref r)]))) := Tk.dct hD5
      refine ⟨fun b o hb => ?_, _, upd_same, ?_, fun y hy => ?_⟩
      · rw [upd_ne (ne_of_none hb nD)]
        exact s5 _ _ (sy _ _ hb)
      · rw [List.map_append, hk, tk1, List.map_append]
        rfl
      · rw [tk1] at hy
        have nv := valV_none nk
        rw [valV_snoc _ _ _ _ nv]
        rcases List.mem_append.mp hy with hy | hy
        · obtain ⟨r2, h1, h2⟩ := hv y hy
          refine ⟨r2, ?_, tk _ _ (s5 _ _ h2)⟩
          rw [if_neg (fun e => nin (by injection e with e; rw [← e]; exact hy))]
          exact h1
        · rw [List.mem_singleton.mp hy]
          exact ⟨r, by rw [if_pos rfl], tk _ _ hr5⟩
    · rw [List.length_map, List.take_length] at p
      obtain ⟨s2, dm⟩ := p
      have dm : DM H2 D ns (mostW ns as) := dm
      have td2 := td1.same s2
      refine ⟨_, rfl, _, rfl, _, rfl, n, D, sa, ns, _, as, rfl, td2, dm.dw fun z _ => ?_, fun H3 s3 => ?_⟩
      · have := (most_ok ns as z).1.length_le
        omega
      · rw [why_of td.nm.nd fun z _ => most_ok ns as z]
        show ∃ c, _
        refine ⟨_, rfl, ?_⟩
        refine ifB (fun e => ?_) (fun e => ?_)
        · exact ⟨_, rfl, k _ _ ((s1.trans s2).trans s3) ⟨fun _ => ⟨D, rfl, dm.same s3⟩, fun e2 => by rw [show allB ns as = true from e] at e2; cases e2⟩⟩
        · exact k _ _ ((s1.trans s2).trans s3) ⟨fun e2 => (by rw [show allB ns as = false from e] at e2; cases e2), fun _ => rfl⟩
theorem cal_may (Z : All K mg) : Cal P w K mg base CX0 9 "may" ["names", "seen", "skill"] (spMay K) := by
  obtain ⟨fd, F⟩ := Z.f_may
  have C_greatest_wants : Cal P w K mg base CX0 8 "greatest_wants" ["names", "seen"] (spGreat K) := cal_greatest_wants Z
  have C_is_one_of : Cal P w K mg base CX0 1 "is_one_of" ["names", "value"] (spOne K) := cal_is_one_of Z
  refine .of ⟨fd, F, ok0 F sc_may (fun vs H Q E h => ?_) (fun cdv A outer s H vs Q E hr h => ?_)⟩ Z.g_may (fun _ _ _ _ _ _ us hl => match us, hl with | [_, _, _], _ => rfl)
  · obtain ⟨n, sa, ns, as, z, rfl, _⟩ := h
    rfl
  · obtain ⟨n, sa, ns, as, z, rfl, td, hz, k⟩ := h
    refine ⟨_, (pss_cons (ps_set (i := 3) sc_may.nd rfl (Or.inl rfl) (pe_cal C_greatest_wants (hr.mono (by decide)) (by rfl) pass0 (pa_cons (pv 0) (pa_cons (pv 1) pa_nil))))
      (pss_cons (ps_if (pt_not (pt_val (pe_cal C_is_one_of (hr.mono (by decide)) (by rfl) pass0 (pa_cons (pv 0) (pa_cons (pv 2) pa_nil))))) (pss_one ps_dead) pss_nil)
      (pss_one (ps_ret (pe_ifExp (pt_cmpR op_isN (pv 3) pe_non (nomark _)) (pe_lst pa_nil) (pe_callTy call_list_of (by rfl) Z.b_list PyProof.Rows.boot_list (pa_cons (pe_dget (hu_of hr) (pv 3) (pv 2) (fun _ _ => rfl)) pa_nil))))))), ?_⟩
    refine ⟨_, rfl, _, rfl, n, sa, ns, as, rfl, td, fun v H1 s1 gr => ?_⟩
    refine ⟨_, rfl, _, rfl, n, ns, .str z, "str", rfl, td.names.sq.same s1, .str _, ?_⟩
    have e1 : isOne ns (.str z) = true := decide_eq_true hz
    rw [e1]
    refine ⟨_, rfl, ifF rfl ?_⟩
    cases ab : allB ns as with
    | true =>
      obtain ⟨d, rfl, kvs, hd, hk, hv⟩ := gr.1 ab
      obtain ⟨r, h1, h2⟩ := hv z hz
      refine ⟨_, rfl, rfl, _, rfl, ifF rfl ⟨_, rfl, _, rfl, d, .ref r, rfl, ?_, r, _, rfl, .inr (SqT.of h2), fun l nl => ?_⟩⟩
      · rw [← h1]
        exact DGet.k (k := .inr z) hd
      · refine k l _ (s1.trans (Same.new nl)) ?_
        rw [upd_same]
        unfold mayB
        rw [if_pos ab]
    | false =>
      have e := gr.2 ab
      subst e
      refine ⟨_, rfl, rfl, _, rfl, ifT rfl ⟨(by show 0 ≤ sizeLine; decide), fun l nl => ?_⟩⟩
      refine k l _ (s1.trans (Same.new nl)) ?_
      rw [upd_same]
      unfold mayB
      rw [if_neg (by rw [ab]; decide)]
      rfl
end
end Rt
end
section
set_option Elab.async false
set_option linter.all false
set_option maxRecDepth 100000
set_option maxHeartbeats 4000000
/-! the own errors' facts; the tables of the defs that make lambdas; an own Hook -/
namespace Rt
open PySem PySem.Spec PyProof.Rows L2
def oexB (K : PySem.W.Frag) (x : Str) : Bool := (match K.lookup (He.ga K x) with
  | some ⟨.type t, _, .cls cd, sl⟩ => decide (t = "type") && (match cd.mro, sl.toList with
    | .ref C :: bm, [_, _, _, _, some (.builtin n), _] => decide (C = He.ga K x) && (decide (n = "ValueError.__new__") && (cd.hasDict && (!cd.hasDel && PySem.HandSPX.refsVE bm)))
    | _, _ => false)
  | _ => false) && (He.eqO (PySem.W.findIn K (.ref (He.ga K x)) "__setattr__") (some (some (.builtin "object.__setattr__"))) && (decide (PySem.W.subIn K (.ref (He.ga K x)) (.type "BaseException") = some true) && (decide (PySem.W.typeIn K (.ref (He.ga K x)) = some (.type "type")) && PySem.W.keepIn K (.ref (He.ga K x)))))
theorem oex_ok {K : PySem.W.Frag} {x : Str} (h : oexB K x = true) : OexC K (He.ga K x) := by
  unfold oexB at h
  obtain ⟨h0, h⟩ := He.ba h
  obtain ⟨h1, h⟩ := He.ba h
  obtain ⟨h2, h⟩ := He.ba h
  obtain ⟨h3, h4⟩ := He.ba h
  refine ⟨?_, He.eqO_ok h1, of_decide_eq_true h2, of_decide_eq_true h3, h4⟩
  generalize hC : He.ga K x = C at h0 ⊢
  split at h0
  · rename_i t d cd sl q
    obtain ⟨e1, h0⟩ := He.ba h0
    have e1 := of_decide_eq_true e1
    subst e1
    split at h0
    · rename_i C' bm k0 k1 k2 k3 n k5 em es
      simp only [Bool.and_eq_true, decide_eq_true_eq, Bool.not_eq_true'] at h0
      obtain ⟨_, g1, g2, g3, g4, g5⟩ := h0
      subst g1 g2
      obtain ⟨nm, bs, mro, ns, qn, hd, sn, sub, ab, col, del⟩ := cd
      obtain ⟨sl⟩ := sl
      cases em
      cases es
      cases g3
      cases g4
      exact ⟨nm, qn, ns, bs, bm, sn, sub, ab, col, d, k0, k1, k2, k3, k5, q, g5⟩
    · cases h0
  · cases h0
/-- the code object and the table of the def that makes lambdas -/
def lamC (K : PySem.W.Frag) (x : Str) : Addr := match PySem.W.tabIn K x with
  | some p => p.1
  | none => 0
def lamP (K : PySem.W.Frag) (x : Str) : Addr := match PySem.W.tabIn K x with
  | some p => p.2
  | none => 0
def lamB (K : PySem.W.Frag) (x : Str) : Bool := PySem.W.codeHdIn K (lamC K x) (lamP K x) && (K.lookup (lamP K x)).isNone
theorem lam_ok {K : PySem.W.Frag} {h : Heap} {x : Str} (X : K.In h) (b : lamB K x = true) : PySem.W.CodeHd h (lamC K x) (lamP K x) ∧ K.lookup (lamP K x) = none := by
  obtain ⟨b1, b2⟩ := He.ba b
  refine ⟨PySem.W.codeHd_of_K X b1, ?_⟩
  cases q : K.lookup (lamP K x) with
  | none => rfl
  | some o =>
    rw [q] at b2
    cases b2
/-- the two errors that are raised, their makers -/
def erB (K : PySem.W.Frag) : Bool := (["NoSkill", "NoSeen"] : List Str).all fun x => oexB K x && (He.eqO (PySem.W.findIn K (.ref (He.ga K x)) "__init__") (some (some (.ref (He.ma K (He.ga K x) "__init__")))) && (decide (PySem.W.typeIn K (.ref (He.ma K (He.ga K x) "__init__")) = some (.type "function")) && L2.xfB K (He.ga K x)))
/-- the defs that make lambdas -/
def lamD : List Str := ["_law_all_refused", "law"]
def exB (K : PySem.W.Frag) : Bool := erB K && (lamD.all (lamB K) && !decide (lamP K "_law_all_refused" = lamP K "law"))
structure SaysX (K : PySem.W.Frag) : Prop where
  d : He.SaysD fa fn K
  b : exB K = true
abbrev AlX : Type := He.AlD × Bool × List (Option Obj)
/-- what is reached, but the tables of the defs that make lambdas, which grow -/
def asX (g : Addr → Option Obj) : List Addr := (He.asD g 5).filter fun a => !(lamD.any fun x => decide (a = lamP (He.frG g (He.asD g 5)) x))
def obsX (g : Addr → Option Obj) : AlX := (He.obsD fa fn (He.frG g (asX g)), exB (He.frG g (asX g)), lamD.map fun x => g (lamP (He.frG g (asX g)) x))
def emptyT : Obj := { cls := .none, data := .fields #[] }
structure SaysH (K : PySem.W.Frag) (h : Heap) : Prop where
  kin : K.In h
  x : SaysX K
  tabs : ∀ y ∈ lamD, h.get? (lamP K y) = some emptyT
theorem tabs_ok {K : PySem.W.Frag} {g : Addr → Option Obj} (h : (lamD.map fun x => g (lamP K x)) = lamD.map fun _ => some emptyT) : ∀ y ∈ lamD, g (lamP K y) = some emptyT := by
  intro y hy
  obtain ⟨i, hi⟩ := List.getElem?_of_mem hy
  have e := congrArg (fun l : List (Option Obj) => l[i]?) h
  simp only [List.getElem?_map, hi, Option.map_some] at e
  exact Option.some.inj e
def hookX : PySem.W.Hook where
  α := AlX
  obs := fun s => obsX s.heap.get?
  val := fun _ => (He.valD fn, true, lamD.map fun _ => some emptyT)
  says := fun _ h => ∃ K : PySem.W.Frag, SaysH K h
  of := fun _ _ e => ⟨_, He.frG_in, ⟨congrArg (fun z : AlX => z.1) e, congrArg (fun z : AlX => z.2.1) e⟩, tabs_ok (congrArg (fun z : AlX => z.2.2) e)⟩
  keeps := fun _ _ _ ⟨K, q⟩ k => ⟨K, PySem.W.Frag.In.keeps q.kin k, q.x, fun y hy => k _ _ (q.tabs y hy)⟩
theorem obsX_eq {g : Addr → Option Obj} {s : Shared} (h : ∀ a, g a = s.heap.get? a) : obsX g = hookX.obs s := by
  have e : g = s.heap.get? := funext h
  rw [e] <;> rfl
theorem SaysX.err {K : PySem.W.Frag} (c : SaysX K) {x : Str} (h : x ∈ (["NoSkill", "NoSeen"] : List Str)) : OexC K (He.ga K x) ∧ PySem.W.findIn K (.ref (He.ga K x)) "__init__" = some (some (.ref (He.ma K (He.ga K x) "__init__"))) ∧ PySem.W.typeIn K (.ref (He.ma K (He.ga K x) "__init__")) = some (.type "function") ∧ L2.XfC K (He.ga K x) := by
  obtain ⟨h1, h2⟩ := He.ba (List.all_eq_true.mp (He.ba c.b).1 x h)
  obtain ⟨h3, h4⟩ := He.ba h2
  obtain ⟨h5, h6⟩ := He.ba h4
  exact ⟨oex_ok h1, He.eqO_ok h3, of_decide_eq_true h5, L2.xfB_ok h6⟩
theorem SaysX.lam {K : PySem.W.Frag} (c : SaysX K) {y : Str} (h : y ∈ lamD) : lamB K y = true := List.all_eq_true.mp (He.ba (He.ba c.b).2).1 y h
theorem SaysX.ne {K : PySem.W.Frag} (c : SaysX K) : lamP K "_law_all_refused" ≠ lamP K "law" := by
  have h := (He.ba (He.ba c.b).2).2
  rw [Bool.not_eq_true'] at h
  exact of_decide_eq_false h
structure AllX (K : PySem.W.Frag) (mg : Str → Option Value) : Prop where
  z : All K mg
  x : SaysX K
end Rt
end
section
set_option Elab.async false
set_option linter.all false
set_option maxRecDepth 100000
set_option maxHeartbeats 8000000
/-! the own errors are made and raised -/
namespace Rt
open PySem PySem.Spec PyProof.Rows L2
/-- an own error's maker: one field -/
def spEx (C : Addr) (f : Str) : Sp := fun vs H Q _ => ∃ (a : Addr) (y : V), vs = [.ref a, y] ∧ H a = some (exo a C none) ∧ ∀ dx, H dx = none → dx ≠ a → Q .non (upd (upd H dx (exd dx [(f, y)])) a (exo a C (some dx)))
/-- what is wished of an error of the class named c, its field f being y -/
def Err (K : PySem.W.Frag) (c f : Str) (y : V) (H : Hp) (E : XK) : Prop := ∀ d H', H d = none → Same H H' → H' d = some (.xd [(f, y)]) → E (.ref (He.ga K c)) (some d) H'
theorem err_made {K : PySem.W.Frag} {c f : Str} {y : V} {H : Hp} {E : XK} (k : Err K c f y H E) (a : Addr) (na : H a = none) : spEx (He.ga K c) f (.ref a :: ([y] ++ [])) (upd H a (exo a (He.ga K c) none))
    (fun v H2 => v = .non ∧ ∃ (d : Addr) (fs : List (Str × V)), H2 a = some (exo a (He.ga K c) (some d)) ∧ H2 d = some (exd d fs) ∧ H d = none ∧ E (.ref (He.ga K c)) (some d) (upd (del H2 a) d (.xd fs))) (fun _ _ _ => False) := by
  refine ⟨a, y, rfl, upd_same, fun dx nx ne => ⟨rfl, dx, _, upd_same, by rw [upd_ne ne, upd_same], ?_, ?_⟩⟩
  · rw [upd_ne ne] at nx
    exact nx
  · have nd : H dx = none := by
      rw [upd_ne ne] at nx
      exact nx
    refine k dx _ nd (fun b o hb => ?_) upd_same
    have b1 := ne_of_none hb nd
    have b2 := ne_of_none hb na
    rw [upd_ne b1, del_ne b2, upd_ne b2, upd_ne b1, upd_ne b2]
    exact hb
theorem none_of {H H' : Hp} {d : Addr} (s : Same H H') (n : H' d = none) : H d = none := by
  cases h : H d with
  | none => rfl
  | some o =>
    rw [s _ _ h] at n
    cases n
theorem Err.same {K : PySem.W.Frag} {c f : Str} {y : V} {H H' : Hp} {E : XK} (k : Err K c f y H E) (s : Same H H') : Err K c f y H' E :=
  fun d H2 nd s2 hd => k d H2 (none_of s nd) (s.trans s2) hd
section
variable {P : Program} {w : World} {K : PySem.W.Frag} {mg : Str → Option Value} {base : Heap}
theorem ok_noskill (W : AllX K mg) : ∃ fd, Binds K fd ["self", "skill"] [] ∧ FnOk P w K mg base CX0 1 (He.ma K (He.ga K "NoSkill") "__init__") fd ["self", "skill"] (spEx (He.ga K "NoSkill") "skill") := by
  have Z := W.z
  obtain ⟨fd, F⟩ := Z.f_NoSkill_init
  refine ⟨fd, F.bindsN (fun _ _ _ _ _ _ us hl => match us, hl with | [_, _], _ => rfl), ok0 F sc_NoSkill_init (fun vs H Q E h => ?_) (fun cdv A outer s H vs Q E hr h => ?_)⟩
  · obtain ⟨a, y, rfl, _⟩ := h
    rfl
  · obtain ⟨a, y, rfl, ha, k⟩ := h
    exact ⟨_, pss_one (ps_ost (pv 0) (pv 1)), _, rfl, _, rfl, a, He.ga K "NoSkill", rfl, (W.x.err (by simp)).1, Z.n_NoSkill, .inl ⟨ha, k⟩⟩
theorem ok_noseen (W : AllX K mg) : ∃ fd, Binds K fd ["self", "seen"] [] ∧ FnOk P w K mg base CX0 1 (He.ma K (He.ga K "NoSeen") "__init__") fd ["self", "seen"] (spEx (He.ga K "NoSeen") "seen") := by
  have Z := W.z
  obtain ⟨fd, F⟩ := Z.f_NoSeen_init
  refine ⟨fd, F.bindsN (fun _ _ _ _ _ _ us hl => match us, hl with | [_, _], _ => rfl), ok0 F sc_NoSeen_init (fun vs H Q E h => ?_) (fun cdv A outer s H vs Q E hr h => ?_)⟩
  · obtain ⟨a, y, rfl, _⟩ := h
    rfl
  · obtain ⟨a, y, rfl, ha, k⟩ := h
    exact ⟨_, pss_one (ps_ost (pv 0) (pv 1)), _, rfl, _, rfl, a, He.ga K "NoSeen", rfl, (W.x.err (by simp)).1, Z.n_NoSeen, .inl ⟨ha, k⟩⟩
/-- what is let out of a def goes on as it is -/
theorem pass_up {X : Cx} {E : XK} (tk : Takes X fun cls d _ H => E cls d H) : Passes (L2.CX X.prog X.w) X E := passes_call tk fun _ _ _ _ h => h
/-- a def that lets something out -/
theorem okX {x qual : Str} {params : Arguments} {body : List Stmt} {scope : Scope} {f : Addr} {fd : FuncData} {N ps : List Str} {k : Nat} {sp : Sp} (F : FunD K x qual params body scope [] [] f fd) (S : FnScope N ps scope) (len : ∀ vs H Q E, sp vs H Q E → vs.length = ps.length)
    (hbody : ∀ (cdv : Value) (A : Around) (outer : List Env) (s : Shared) (H : Hp) (vs : List V) (Q : VK) (E : XK), Room k (A.deeper (envOfC qual scope s.heap.objs.size f cdv)) → sp vs H Q E →
      ∃ t, PSs (cxOf (L2.CX P w) P w K mg base N qual scope f cdv A outer s H E) body t ∧ t { nx := fun _ H' => Q .non H', rt := Q } (start N vs) H) : FnOk P w K mg base (L2.CX P w) (k + 1) f fd ps sp :=
  F.ok S len hbody
end
end Rt
end
section
set_option Elab.async false
set_option linter.all false
set_option maxRecDepth 100000
set_option maxHeartbeats 4000000
/-! defs and laws whose promise is told where no repr is under way; repr of data -/
namespace Rt
open PySem PySem.Spec PyProof.Rows L2
/-- what a def's code is -/
def codeOf (K : PySem.W.Frag) (f : Addr) : Option Value := match K.lookup f with
  | some ⟨_, _, .func fd, _⟩ => some fd.code
  | _ => none
abbrev SpG : Type := List V → Hp → VK → Prop
structure FnG (P : Program) (w : World) (K : PySem.W.Frag) (mg : Str → Option Value) (base : Heap) (k : Nat) (f : Addr) (fd : FuncData) (ps : List Str) (sp : SpG) : Prop where
  len : ∀ vs H Q, sp vs H Q → vs.length = ps.length
  run : ∀ (A : Around) (outer : List Env) (s : Shared) (H : Hp) (us : List Value) (vs : List V) (Q : VK), A.guards = some [] → Room k A → Env0 P w K mg base A outer s H → Vals vs us → sp vs H Q → codeAny (model P w) A (.call (.ref f) ⟨us, []⟩) (CR C8.CX0 outer P w H s Q C8.E0) s
section
variable {P : Program} {w : World} {K : PySem.W.Frag} {mg : Str → Option Value} {base : Heap} {x qual : Str} {params : Arguments} {body : List Stmt} {scope : Scope} {f : Addr} {fd : FuncData} {N ps : List Str} {k : Nat} {sp : SpG}
theorem FnG.of (F : FunD K x qual params body scope [] [] f fd) (S : FnScope N ps scope) (hb : Binds K fd ps []) (len : ∀ vs H Q, sp vs H Q → vs.length = ps.length)
    (hbody : ∀ (cdv : Value) (A : Around) (outer : List Env) (s : Shared) (H : Hp) (vs : List V) (Q : VK), codeOf K f = some cdv → A.guards = some [] → Room k (A.deeper (envOfC qual scope s.heap.objs.size f cdv)) → sp vs H Q →
      ∃ t, PSs (cxOf C8.CX0 P w K mg base N qual scope f cdv A outer s H C8.E0).nox body t ∧ t { nx := fun _ H' => Q .non H', rt := Q } (start N vs) H) : FnG P w K mg base (k + 1) f fd ps sp := by
  refine ⟨len, fun A outer s H us vs Q gu hr e0 r h => ?_⟩
  obtain ⟨oc, od, dV, kV, doc, pm, an, cdv, ct, osl, rfl, lk, hcd, _, _⟩ := F.ex
  have KX : K.In s.heap := e0.mod.kin.keeps fun b o e => (e0.bs b o e).1
  have ln := len _ _ _ h
  have bd := hb s us KX (by rw [r.length] at ln; simpa using ln)
  refine LamX.run_ofS lk hcd S hr e0 (by simpa using bd) r ln fun hr2 => ?_
  obtain ⟨t, ht, q⟩ := hbody cdv A outer s H vs Q (by unfold codeOf; rw [lk] <;> rfl) gu hr2 h
  exact ⟨t, ht.nox, q⟩
end
/-- the text that repr gives -/
def rT : PyData → Str
  | .none => "None"
  | .bool b => if b then "True" else "False"
  | .int i => toString i
  | .str x => reprText x
  | d => d.shown
structure RepOk (d : PyData) : Prop where
  sh : d.showable = true
  nd : d.hasDict = false
  dp : d.depth ≤ 60
  len : (rT d).length ≤ sizeLine
  int : ∀ i, d = .int i → i.natAbs.log2 < 1920
def rRep (K : PySem.W.Frag) : List V → Hp → VK → Prop := fun xs H Q => ∃ x d, xs = [x] ∧ Dp K H x d ∧ RepOk d ∧ Q (.str (rT d)) H
theorem call_rep {X : Cx} (gu : X.A.guards = some []) (room : X.A.units + 70 < cLine) : CallR X (.builtin "repr") (rRep X.K) := by
  intro pins s σ H xs us Q I r ⟨x, d, ex, dp, ok, q⟩
  subst ex
  obtain ⟨u, rfl, ru⟩ := r.one
  have refs : ∀ {a : Addr} {e : PyData}, x = .ref a → d = e → rT e = e.shown → wpAny (model X.prog X.w) X.A (call (.builtin "repr") [u]) (EP X pins σ Q) X.xe s := fun {a e} ex ed et => by
    subst ex ed
    obtain ⟨as, rd⟩ := dp.reads I d _ u ru
    cases ru
    have dpt := ok.dp
    have ln := ok.len
    rw [et] at ln
    refine repr_of_reads' (h₀ := s.heap) rd ok.sh (fun z => by rw [ok.nd] at z; cases z) gu (by omega) (fun _ _ z => z) (fun h' t tk k => ?_) ln
    exact ⟨.str (rT d), H, I.kept (t' := tk) k, ⟨t, by rw [et]⟩, q⟩
  cases dp with
  | non =>
    cases ru
    exact P.repr_of_none ⟨.str "None", H, I.tok _, ⟨_, rfl⟩, q⟩
  | bl b =>
    cases ru
    exact P.repr_of_bool ⟨.str _, H, I.tok _, ⟨_, rfl⟩, q⟩
  | int i =>
    obtain ⟨t, rfl⟩ := ru
    exact P.repr_of_int (ok.int i rfl) ⟨.str _, H, I.tok _, ⟨_, rfl⟩, q⟩
  | str z =>
    obtain ⟨t, rfl⟩ := ru
    exact P.repr_of_str ⟨.str _, H, I.tok _, ⟨_, rfl⟩, q⟩ ok.len
  | lst h1 h2 => exact refs rfl rfl rfl
  | tup h1 h2 => exact refs rfl rfl rfl
theorem room70 {k : Nat} {A : Around} (r : Room k A) : A.units + 70 < cLine := by have := r.un; omega
/-- the end: a law without lambdas whose promise is told where no repr is under way -/
theorem law_end2 {P : Program} {w : World} {K : PySem.W.Frag} {mg mb : Str → Option Value} {k : Nat} {fa a : Addr} {fd : FuncData} {x : Str} {sp : SpG} {s : Shared} {vs : List Value} {ns : List Int}
    (kin : K.In s.heap) (glob : s.heap.Ns mainGlobals mg) (bltn : s.heap.Ns builtinsNs mb) (boot : ∀ x : Str, x ≠ "__name__" → mb x = bootBuiltins x) (lim : s.heap.NoLimit) (gens : s.gens = #[])
    (scr : s.heap.get? a = some { cls := .type "list", data := .seq vs.toArray }) (isI : IntsAre vs ns) (fits : ns.length ≤ sizeLine) (hr : Room k callerA)
    (F : ∀ base : Heap, K.In base → base.Ns mainGlobals mg → FnG P w K mg base k fa fd [x] sp)
    (told : ∀ H : Hp, SqL K H a (ns.map V.int) → sp [.ref a] H (fun v _ => v = .bl true)) :
    codeAny (model P w) callerA (.call (.ref fa) ⟨[.ref a], []⟩) (fun r s' => r = .ok (.ret (.bool true)) ∧ OldK s.heap s'.heap ∧ s'.os = s.os ∧ AllBare s'.gens) s := by
  have rv := vals_ints isI
  have vl := isI.length
  have go : ∀ H : Hp, (∀ b, H b = none ∨ (b = a ∧ K.lookup a = none ∧ ∃ o ys, H b = some (.frz o (.lst ys)))) → SqL K H a (ns.map V.int) → HOk P w H s.heap →
      codeAny (model P w) callerA (.call (.ref fa) ⟨[.ref a], []⟩) (fun r s' => r = .ok (.ret (.bool true)) ∧ OldK s.heap s'.heap ∧ s'.os = s.os ∧ AllBare s'.gens) s := by
    intro H other sq hok
    have names : ∀ {b : Addr} {m : Str → Option Value}, s.heap.Ns b m → (hidT s.heap H).Ns b m := fun {b m} ⟨o, es, ep, e, d, r⟩ => by
      refine ⟨o, es, ep, hidT_get e ?_, d, r⟩
      rcases other b with q | ⟨q, _⟩
      · exact q
      · rw [q, scr] at e
        cases e
        cases d
    have bin : K.In (hidT s.heap H) := fun b o e => hidT_get (kin b o e) (by
      rcases other b with q | ⟨q, q2, _⟩
      · exact q
      · rw [q, q2] at e
        cases e)
    have md : L2.Mod K mg (hidT s.heap H) := ⟨bin, names glob, ⟨mb, names bltn, boot⟩, let ⟨mc, h1, h2⟩ := lim; ⟨mc, names h1, h2⟩⟩
    have e0 : Env0 P w K mg (hidT s.heap H) callerA [] s H := ⟨rfl, md, fun b o e => of_hidT e, Nat.le_of_eq (hidT_size _ _), trivial, fun b hb => absurd (show b ∈ ([] : List Addr) from hb) (by simp), hok, .of_eq gens⟩
    refine codeAny_mono ((F _ bin (names glob)).run callerA [] s H [.ref a] [.ref a] _ rfl hr e0 (.cons rfl .nil) (told H sq)) fun r s' h => ?_
    match r, h with
    | .error e, h => exact (show False from h).elim
    | .ok .next, h => exact False.elim h
    | .ok .brk, h => exact False.elim h
    | .ok .cont, h => exact False.elim h
    | .ok (.ret u), h =>
      obtain ⟨v, H', os, bare, un, hok', rv', q⟩ := h
      have q : v = .bl true := q
      subst q
      obtain rfl : u = Value.bool true := rv'
      have stay : ∀ b o, s.heap.get? b = some o → s'.heap.get? b = some o := fun b o e => by
        rcases other b with q | ⟨_, _, o2, ys, q⟩
        · exact un.keep b o e q (fun z => nomatch (show b ∈ ([] : List Addr) from z)) (by simp)
        · obtain ⟨e1, _⟩ := hok b _ q
          obtain ⟨e2, _⟩ := hok' b _ (un.frzs b o2 _ q)
          rw [e] at e1
          cases e1
          exact e2
      exact ⟨rfl, ⟨fun b o e => .inl (stay b o e), fun b o e => ⟨o, stay b o e⟩⟩, os, bare⟩
  cases hk : K.lookup a with
  | some o =>
    have e := kin a o hk
    rw [scr] at e
    cases e
    exact go (fun _ => none) (fun b => .inl rfl) (.inr ⟨_, vs.toArray, _, hk, rfl, rfl, rfl, by rw [List.size_toArray, vl]; exact fits, by simpa using rv⟩) (fun b u z => nomatch z)
  | none =>
    refine go (fun b => if b = a then some (.frz { cls := .type "list", data := .seq vs.toArray } (.lst (ns.map V.int))) else none) (fun b => ?_) (.inl (.inr ⟨{ cls := .type "list", data := .seq vs.toArray }, if_pos rfl⟩)) (fun b u z => ?_)
    · by_cases hb : b = a
      · exact .inr ⟨hb, hk, _, _, if_pos hb⟩
      · exact .inl (if_neg hb)
    · by_cases hb : b = a
      · have z2 := (if_pos hb).symm.trans z
        cases z2
        rw [hb]
        exact ⟨scr, by rw [List.length_map]; exact fits, vs, _, rv, scr⟩
      · have z2 := (if_neg hb).symm.trans z
        cases z2
theorem walk_end2 {l : PySem.W.OpenLaw} {n k : Nat} {q : Program} {loose : List Str} {XP : (Str → Option Value) → Heap → Prop} {YP : World → Heap → Prop} {d : DefRec} {x : Str}
    (hn : l.most = some n) (hn2 : n ≤ sizeLine) (hdf : d.params.defaults = []) (hr : Room k callerA)
    (F : ∀ (w : World) (mg : Str → Option Value) (fa : Addr) (h : Heap), YP w h → h.Ns mainGlobals mg → mg d.name = some (.ref fa) → ∃ (K : PySem.W.Frag) (fd : FuncData) (sp : SpG), K.In h ∧
      (∀ (H : Hp) (a : Addr) (ns : List Int), ns.length ≤ n → SqL K H a (ns.map V.int) → sp [.ref a] H (fun v _ => v = .bl true)) ∧
      ∀ base : Heap, K.In base → base.Ns mainGlobals mg → FnG l.prog w K mg base k fa fd [x] sp) :
    PySem.W.WalkO q loose XP YP l.row.toRowW d [] (fun f vs => PySem.call f vs) := by
  refine Att.attach_callB hn hdf fun w s₀ s₁ mg mb fa o pm cd doc a vs ns G Y ho hd hcd hmg hobj hints hlen hbits hg => ?_
  obtain ⟨K, fd, sp, KX, hsp, hF⟩ := F w mg fa _ Y G.T.g hmg
  exact law_end2 KX G.T.g G.T.b G.T.builtins G.T.nolimit hg hobj hints (Nat.le_trans hlen hn2) hr hF fun H h => hsp H a ns hlen h
/-- repr of data without numbers, not too heavy -/
theorem rep_of {d : PyData} (l : Lay 20 d) (sh : d.showable = true) (short : d.intsShort 13 = true) (wt : d.weight ≤ 2 ^ 20) (ni : ∀ i, d ≠ .int i) (e : rT d = d.shown) : RepOk d := by
  refine ⟨sh, PyData.hasDict_of_canLay d l.1, Nat.le_trans l.2 (by decide), ?_, fun i e => absurd e (ni i)⟩
  rw [e]
  have q : PyData.layable0 d = true := by
    unfold PyData.layable0
    rw [Bool.and_eq_true, Bool.and_eq_true]
    exact ⟨⟨l.1, decide_eq_true (Nat.le_trans l.2 (by decide))⟩, decide_eq_true wt⟩
  have := PyProof.Rows.shown_le13 q short
  rw [sizeLine_eq]
  omega
theorem show_strs : ∀ zs : List Str, PyData.showableAll (zs.map PyData.str) = true ∧ PyData.intsShortAll 13 (zs.map PyData.str) = true
  | [] => ⟨by simp [PyData.showableAll], by simp [PyData.intsShortAll]⟩
  | z :: zs => by
    obtain ⟨h1, h2⟩ := show_strs zs
    exact ⟨by simp [PyData.showableAll, PyData.showable, h1], by simp [PyData.intsShortAll, PyData.intsShort, h2]⟩
theorem weigh_strs {m : Nat} : ∀ {zs : List Str}, (∀ z ∈ zs, z.length ≤ m) → PyData.weightAll (zs.map PyData.str) ≤ (m + 1) * zs.length
  | [], _ => by simp [PyData.weightAll]
  | z :: zs, h => by
    have ih := weigh_strs (zs := zs) fun y hy => h y (List.mem_cons_of_mem _ hy)
    have hz : z.cps.size ≤ m := h z List.mem_cons_self
    simp only [List.map_cons, PyData.weightAll, PyData.weight, List.length_cons, Nat.mul_add, Nat.mul_one]
    omega
end Rt
end
section
set_option Elab.async false
set_option linter.all false
set_option maxRecDepth 100000
set_option maxHeartbeats 4000000
/-! repr of data and of small dicts; list of a text; is of a bool and anything plain -/
namespace Rt
open PySem PySem.Spec PyProof.Rows L2
def keyD : Key → PyData
  | .inl i => .int i
  | .inr x => .str x
theorem reads_key {h : Heap} {P : Program} {w : World} : ∀ (k : Key) (key : Value), (mixKind P w).is k key = true → Reads h key (keyD k) [] := fun k key hk => by
  rcases keyIs_shape hk with ⟨i, t, rfl, rfl⟩ | ⟨x, t, rfl, rfl⟩
  · exact .int i t
  · exact .str x t
/-- what repr tells of a value: data without dicts, or a small dict -/
def Rp (K : PySem.W.Frag) (H : Hp) (x : V) (t : Str) : Prop := (∃ d, Dp K H x d ∧ RepOk d ∧ rT d = t) ∨ ∃ a, x = .ref a ∧ ((H a = some (.dK []) ∧ t = "{}") ∨ (H a = some (.dK [(.inr "a", .int 1)]) ∧ t = "{'a': 1}"))
def rRp (K : PySem.W.Frag) : List V → Hp → VK → Prop := fun xs H Q => ∃ x t, xs = [x] ∧ Rp K H x t ∧ Q (.str t) H
theorem call_rp {X : Cx} (gu : X.A.guards = some []) (room : X.A.units + 70 < cLine) : CallR X (.builtin "repr") (rRp X.K) := by
  intro pins s σ H xs us Q I r ⟨x, t, ex, rp, q⟩
  rcases rp with ⟨d, dp, ok, e⟩ | ⟨a, e, h⟩
  · subst e
    exact call_rep gu room pins s σ H xs us Q I r ⟨x, d, ex, dp, ok, q⟩
  · subst ex
    obtain ⟨u, rfl, ru⟩ := r.one
    subst e
    cases ru
    have go : ∀ {kvs : List (Key × V)} (D : List (PyData × PyData)), H a = some (.dK kvs) → (∀ vs, KV kvs vs → PyProof.V.PairsRead s.heap keyD vs D []) → (PyData.dict D).showable = true → (PyData.dict D).depth ≤ 60 → (PyData.dict D).shown.length ≤ 1000 → t = (PyData.dict D).shown →
        wpAny (model X.prog X.w) X.A (call (.builtin "repr") [.ref a]) (EP X pins σ Q) X.xe s := fun {kvs} D ha hp h1 h2 h3 h4 => by
      obtain ⟨_, nm, vs, kv, dk⟩ := I.hok a _ ha
      have rd : Reads s.heap (.ref a) (.dict D) [a] := PyProof.V.reads_dictOf reads_key dk (hp vs kv)
      refine repr_of_reads' (h₀ := s.heap) rd h1 (fun _ z => ?_) gu (by omega) (fun _ _ z => z) (fun h' tt tk k => ?_) (by rw [sizeLine_eq]; omega)
      · rw [List.mem_singleton] at z
        rw [z] at nm
        simp at nm
      · exact ⟨.str t, H, I.kept (t' := tk) k, ⟨tt, by rw [h4]⟩, q⟩
    rcases h with ⟨ha, e⟩ | ⟨ha, e⟩
    · refine go [] ha (fun vs kv => ?_) (by decide +kernel) (by decide +kernel) (by decide +kernel) (e.trans (by decide +kernel))
      cases kv with
      | nil => exact .nil
    · refine go [(.str "a", .int 1)] ha (fun vs kv => ?_) (by decide +kernel) (by decide +kernel) (by decide +kernel) (e.trans (by decide +kernel))
      cases kv with
      | cons p q =>
        cases q with
        | nil =>
          rename_i y
          obtain ⟨k, v⟩ := y
          obtain ⟨e1, r1⟩ := p
          obtain ⟨tk, e2⟩ : ∃ tk, v = .int 1 tk := r1
          have e1 : (Sum.inr (Str.ofString "a") : Key) = k := e1
          subst e1 e2
          exact .cons (.int 1 tk) .nil
/-- list of a text -/
def sgn (x : Str) : List Str := x.cps.toList.map fun c => ⟨#[c]⟩
theorem call_listS {X : Cx} (hc : X.calm = true) : CallR X (.type "list") (fun xs H Q => ∃ x, xs = [.str x] ∧ x.length ≤ 1000 ∧ ∀ l, H l = none → Q (.ref l) (upd H l (.lst ((sgn x).map V.str)))) := by
  intro pins s σ H xs us Q I r ⟨x, ex, hx, q⟩
  subst ex
  obtain ⟨u, rfl, t, rfl⟩ := vals1 r
  refine call_list_str (I.ok.hd hc) x t (fun h' tk acc c kp e it => ?_) (by rw [sizeLine_eq]; exact Nat.le_trans hx (by decide))
  refine ⟨.ref s.heap.objs.size, _, I.laid (t' := tk) kp (Nat.le_refl _) (show ObjOk X.prog X.w _ h' _ (.lst ((sgn x).map V.str)) from ⟨?_, acc.toList, c, ?_, by simpa using e⟩), rfl, q _ (I.hok.fresh (Nat.le_refl _))⟩
  · rw [List.length_map, sgn, List.length_map, Array.length_toList, sizeLine_eq]
    have : x.cps.size ≤ 1000 := hx
    omega
  · obtain ⟨h1, h2⟩ := it
    have go : ∀ (cs : List Nat) (vs : List Value), vs.length = cs.length → (∀ (j : Nat) (v : Value), vs[j]? = some v → ∃ (c : Nat) (u : Tok), cs[j]? = some c ∧ v = Value.str ⟨#[c]⟩ u) → Vals ((cs.map fun c => (⟨#[c]⟩ : Str)).map V.str) vs := by
      intro cs
      induction cs with
      | nil =>
        intro vs l _
        cases vs with
        | nil => exact .nil
        | cons _ _ => simp at l
      | cons c cs ih =>
        intro vs l hv
        cases vs with
        | nil => simp at l
        | cons v vs =>
          obtain ⟨c', u, hc', rfl⟩ := hv 0 v rfl
          cases hc'
          exact .cons ⟨u, rfl⟩ (ih vs (by simpa using l) fun j v h => hv (j + 1) v h)
    refine go _ _ (by rw [Array.length_toList, Array.length_toList]; exact h1) fun j v hj => ?_
    obtain ⟨c, u, hc', e⟩ := h2 j v (by simpa using hj)
    exact ⟨c, u, by simpa using hc', e⟩
/-- is of anything and a bool -/
def rIsV : R2 := fun x y H Q => ∃ b : Bool, y = .bl b ∧ (∀ a, x ≠ .ref a) ∧ (∀ a, x ≠ .ty a) ∧ Q (.bl (decide (x = .bl b))) H
theorem op_isV {X : Cx} : OpR X (compareOp .Is) rIsV := by
  intro pins s σ H x y v u Q I rx ry ⟨b, e, nr, nt, q⟩
  subst e
  cases (show u = Value.bool b from ry)
  have off : plainIs v (.bool b) = true → v ≠ .bool b → x ≠ .bl b → wpAny (model X.prog X.w) X.A (compareOp .Is v (.bool b)) (EP X pins σ Q) X.xe s := fun h1 h2 h3 =>
    wpAny_is_other h1 h2 ⟨.bl false, H, I, rfl, by rw [decide_eq_false h3] at q; exact q⟩
  cases x with
  | ref a => exact absurd rfl (nr a)
  | ty a => exact absurd rfl (nt a)
  | bl a => exact op_isBl pins s σ H _ (.bl b) v (.bool b) Q I rx rfl ⟨a, b, rfl, rfl, by
      have : decide (V.bl a = V.bl b) = decide (a = b) := by rw [decide_eq_decide]; exact ⟨fun e => by injection e, fun e => by rw [e]⟩
      rw [this] at q
      exact q⟩
  | non => cases rx; exact off rfl (by simp) (by simp)
  | int i => obtain ⟨t, rfl⟩ := rx; exact off rfl (by simp) (by simp)
  | str z => obtain ⟨t, rfl⟩ := rx; exact off rfl (by simp) (by simp)
  | flt z => obtain ⟨t, rfl⟩ := rx; exact off rfl (by simp) (by simp)
  | byt z => obtain ⟨t, rfl⟩ := rx; exact off rfl (by simp) (by simp)
end Rt
end
section
set_option Elab.async false
set_option linter.all false
set_option maxRecDepth 100000
set_option maxHeartbeats 8000000
/-! told: names and answers that are none are refused -/
namespace Rt
open PySem PySem.Spec PyProof.Rows L2
open LamX (ExtN)
/-! ### what stays where only tables grow -/
theorem ExtN.tk {H H' : Hp} (e : ExtN H H') : Tk H H' := fun b xs h => e b _ h fun _ z => by cases z
theorem xn_lst {H H' : Hp} {b : Addr} {xs : List V} (e : ExtN H H') (h : H b = some (.lst xs)) : H' b = some (.lst xs) := e _ _ h fun _ z => by cases z
theorem xn_dK {H H' : Hp} {b : Addr} {kvs : List (Key × V)} (e : ExtN H H') (h : H b = some (.dK kvs)) : H' b = some (.dK kvs) := e _ _ h fun _ z => by cases z
theorem xn_sqT {K : PySem.W.Frag} {H H' : Hp} {b : Addr} {xs : List V} (e : ExtN H H') (h : SqT K H b xs) : SqT K H' b xs := by
  rcases h with (h | ⟨o, h⟩) | h
  · exact .inl (.inl (e _ _ h fun _ z => by cases z))
  · exact .inl (.inr ⟨o, e _ _ h fun _ z => by cases z⟩)
  · exact .inr h
theorem xn_sqL {K : PySem.W.Frag} {H H' : Hp} {b : Addr} {xs : List V} (e : ExtN H H') (h : SqL K H b xs) : SqL K H' b xs := by
  rcases h with (h | ⟨o, h⟩) | h
  · exact .inl (.inl (e _ _ h fun _ z => by cases z))
  · exact .inl (.inr ⟨o, e _ _ h fun _ z => by cases z⟩)
  · exact .inr h
theorem Ts.xn {K : PySem.W.Frag} {H H' : Hp} {x : V} {T : String} (h : Ts K H x T) (e : ExtN H H') : Ts K H' x T := by
  cases h with
  | non => exact .non
  | bl b => exact .bl b
  | int i => exact .int i
  | str x => exact .str x
  | tup h => exact .tup (xn_sqT e h)
  | lst h => exact .lst (xn_lst e h)
  | dct h => exact .dct (xn_dK e h)
theorem Lt.xn {K : PySem.W.Frag} {H H' : Hp} {a : Addr} {xs : List V} (h : Lt K H a xs) (e : ExtN H H') : Lt K H' a xs :=
  ⟨h.sq.elim (fun q => .inl (xn_sqL e q)) fun q => .inr (xn_sqT e q), let ⟨T, t, q⟩ := h.ty; ⟨T, t.xn e, q⟩⟩
theorem Ov.xn {K : PySem.W.Frag} {H H' : Hp} {x : V} {o : Option (List V)} (h : Ov K H x o) (s : ExtN H H') : Ov K H' x o := by
  cases o with
  | some xs =>
    obtain ⟨b, e, hb, ht, hl⟩ := h
    exact ⟨b, e, xn_sqT s hb, fun y hy => let ⟨T, t⟩ := ht y hy; ⟨T, t.xn s⟩, hl⟩
  | none =>
    obtain ⟨T, t, ne⟩ := h
    exact ⟨T, t.xn s, ne⟩
theorem Told.xn {K : PySem.W.Frag} {H H' : Hp} {n s : Addr} {ns : List Str} {as : List An} (h : Told K H n ns s as) (e : ExtN H H') : Told K H' n ns s as :=
  ⟨h.names.xn e, h.nm, let ⟨xs, l, p⟩ := h.seen; ⟨xs, l.xn e, paired_mono (fun x w q => ant_mono _ _ _ _ (ExtN.tk e) q) p⟩, h.ok, h.le⟩
/-! ### what is no list or tuple of names -/
def okNm (xs : List V) : Bool := decide (1 ≤ xs.length) && (decide (xs.length ≤ 12) && (xs.all isWord && unlike (strsOf xs) xs))
inductive NmBad (K : PySem.W.Frag) (H : Hp) : V → Prop
  | odd {x : V} {T : String} : Ts K H x T → T ≠ "list" → T ≠ "tuple" → NmBad K H x
  | seq {b : Addr} {xs : List V} : Lt K H b xs → (∀ y ∈ xs, ∃ T, Ts K H y T) → (∀ z, V.str z ∈ xs → z.length ≤ 1000) → xs.length ≤ 60 → okNm xs = false → NmBad K H (.ref b)
theorem NmBad.xn {K : PySem.W.Frag} {H H' : Hp} {x : V} (h : NmBad K H x) (e : ExtN H H') : NmBad K H' x := by
  cases h with
  | odd t a b => exact .odd (t.xn e) a b
  | seq l ts a b c => exact .seq (l.xn e) (fun y hy => let ⟨T, t⟩ := ts y hy; ⟨T, t.xn e⟩) a b c
/-! ### what is no answer, are no answers -/
def hasV (o : Option (List V)) : V → Bool
  | .str z => decide (z ∈ strsOf (o.getD []))
  | _ => false
def isBlV : V → Bool
  | .bl _ => true
  | _ => false
inductive RowBad (K : PySem.W.Frag) (H : Hp) (ns : List Str) : V → Prop
  | odd {x : V} {T : String} : Ts K H x T → T ≠ "tuple" → RowBad K H ns x
  | len {b : Addr} {xs : List V} : SqT K H b xs → xs.length ≠ 3 → RowBad K H ns (.ref b)
  | row {b : Addr} {y s l : V} {o : Option (List V)} {T : String} : SqT K H b [y, s, l] → Ov K H y o → Ts K H s T → (∀ a, l ≠ .ref a) → (∀ a, l ≠ .ty a) → (ordO ns o && (isOne ns s && (!hasV o s && isBlV l))) = false → RowBad K H ns (.ref b)
theorem RowBad.xn {K : PySem.W.Frag} {H H' : Hp} {ns : List Str} {x : V} (h : RowBad K H ns x) (e : ExtN H H') : RowBad K H' ns x := by
  cases h with
  | odd t a => exact .odd (t.xn e) a
  | len l a => exact .len (xn_sqT e l) a
  | row l o t a b c => exact .row (xn_sqT e l) (o.xn e) (t.xn e) a b c
inductive SnBad (K : PySem.W.Frag) (H : Hp) (ns : List Str) : V → Prop
  | odd {x : V} {T : String} : Ts K H x T → T ≠ "list" → T ≠ "tuple" → SnBad K H ns x
  | rows {b : Addr} {x : V} : Lt K H b [x] → RowBad K H ns x → SnBad K H ns (.ref b)
theorem SnBad.xn {K : PySem.W.Frag} {H H' : Hp} {ns : List Str} {x : V} (h : SnBad K H ns x) (e : ExtN H H') : SnBad K H' ns x := by
  cases h with
  | odd t a b => exact .odd (t.xn e) a b
  | rows l r => exact .rows (l.xn e) (r.xn e)
/-- names and answers of which one is none -/
inductive BadNS (K : PySem.W.Frag) (H : Hp) : V → V → Str → Str → V → Prop
  | names {n s : V} : NmBad K H n → BadNS K H n s "NoSkill" "skill" n
  | seen {n : Addr} {ns : List Str} {s : V} : Lt K H n (ns.map V.str) → Nm ns → SnBad K H ns s → BadNS K H (.ref n) s "NoSeen" "seen" s
inductive BadQ (K : PySem.W.Frag) (H : Hp) : V → V → V → Str → Str → V → Prop
  | ns {n s z : V} {c f : Str} {y : V} : BadNS K H n s c f y → BadQ K H n s z c f y
  | skill {n s : Addr} {ns : List Str} {as : List An} {z : V} {T : String} : Told K H n ns s as → Ts K H z T → isOne ns z = false → BadQ K H (.ref n) (.ref s) z "NoSkill" "skill" z
theorem BadNS.xn {K : PySem.W.Frag} {H H' : Hp} {n s y : V} {c f : Str} (h : BadNS K H n s c f y) (e : ExtN H H') : BadNS K H' n s c f y := by
  cases h with
  | names b => exact .names (b.xn e)
  | seen l nm b => exact .seen (l.xn e) nm (b.xn e)
theorem BadQ.xn {K : PySem.W.Frag} {H H' : Hp} {n s z y : V} {c f : Str} (h : BadQ K H n s z c f y) (e : ExtN H H') : BadQ K H' n s z c f y := by
  cases h with
  | ns b => exact .ns (b.xn e)
  | skill t a b => exact .skill (t.xn e) (a.xn e) b
def spMbnE (K : PySem.W.Frag) : Sp := fun vs H _ E => ∃ x, vs = [x] ∧ NmBad K H x ∧ Err K "NoSkill" "skill" x H E
def spSeenE (K : PySem.W.Frag) : Sp := fun vs H _ E => ∃ x y, vs = [x, y] ∧ NmBad K H x ∧ Err K "NoSkill" "skill" x H E
def spAnsN (K : PySem.W.Frag) : Sp := fun vs H Q _ => ∃ (n : Addr) (ns : List Str) (x : V), vs = [.ref n, x] ∧ Lt K H n (ns.map V.str) ∧ Nm ns ∧ RowBad K H ns x ∧ ∀ H', Same H H' → Q (.bl false) H'
def spSeenN (K : PySem.W.Frag) : Sp := fun vs H Q _ => ∃ (n : Addr) (ns : List Str) (x : V), vs = [.ref n, x] ∧ Lt K H n (ns.map V.str) ∧ Nm ns ∧ SnBad K H ns x ∧ ∀ H', Same H H' → Q (.bl false) H'
def spNSE (K : PySem.W.Frag) : Sp := fun vs H _ E => ∃ n s c f y, vs = [n, s] ∧ BadNS K H n s c f y ∧ Err K c f y H E
def spWhyE (K : PySem.W.Frag) : Sp := fun vs H _ E => ∃ n m s c f y, vs = [n, m, s] ∧ BadNS K H n s c f y ∧ Err K c f y H E
def spQE (K : PySem.W.Frag) : Sp := fun vs H _ E => ∃ n s z c f y, vs = [n, s, z] ∧ BadQ K H n s z c f y ∧ Err K c f y H E
theorem lt_not {T : String} (a : T ≠ "list") (b : T ≠ "tuple") : (decide (T = "list") || decide (T = "tuple")) = false := by rw [decide_eq_false a, decide_eq_false b]; rfl
section
variable {P : Program} {w : World} {K : PySem.W.Frag} {mg : Str → Option Value} {base : Heap} {CX : CXT} {k : Nat} {x qual : Str} {params : Arguments} {body : List Stmt} {scope : Scope} {ps : List Str} {sp : Sp}
theorem Cal.ofX (ex : ∃ fd, FunD K x qual params body scope [] [] (He.ga K x) fd ∧ FnOk P w K mg base CX k (He.ga K x) fd ps sp) (gm : mg x = some (.ref (He.ga K x)))
    (h : ∀ (kV doc pm : Value) (an : Option Addr) (cdv ct : Value) (us : List Value), us.length = ps.length → bindArgs (PySem.W.fnOf x qual params body scope .none kV doc pm an cdv ct) ⟨us, []⟩ = pure (ps.zip us)) :
    Cal P w K mg base CX k x ps sp := by
  obtain ⟨fd, F, G⟩ := ex
  exact ⟨⟨fd, F.bindsN h, G⟩, gm, F.kp⟩
end
section
variable {P : Program} {w : World} {K : PySem.W.Frag} {mg : Str → Option Value} {base : Heap}
theorem calx_must_be_names (W : AllX K mg) : Cal P w K mg base (L2.CX P w) 3 "must_be_names" ["names"] (spMbnE K) := by
  have Z := W.z
  obtain ⟨fd, F⟩ := Z.f_must_be_names
  have C_is_word : Cal P w K mg base CX0 1 "is_word" ["value"] (spWord K) := cal_is_word Z
  have C_are_unlike : Cal P w K mg base CX0 2 "are_unlike" ["names", "values"] (spUnlike K) := cal_are_unlike Z
  obtain ⟨fe, be, Fe⟩ := ok_noskill (P := P) (w := w) (base := base) W
  obtain ⟨T1, T2, T3, _⟩ := W.x.err (x := "NoSkill") (by simp)
  refine .ofX ⟨fd, F, okX F sc_must_be_names (fun vs H Q E h => ?_) (fun cdv A outer s H vs Q E hr h => ?_)⟩ Z.g_must_be_names (fun _ _ _ _ _ _ us hl => match us, hl with | [_], _ => rfl)
  · obtain ⟨x, rfl, _⟩ := h
    rfl
  · obtain ⟨x, rfl, bad, k⟩ := h
    refine ⟨_, (pss_cons (ps_if (PW.pt (pw_or (pt_not (pt_val (pe_callB call_isLT (by rfl) Z.b_isinstance boot_isinstance (pa_cons (pv 0) (pa_cons (pe_tup (pa_cons (pe_bltn (v := .ty "list") (by rfl) Z.b_list PyProof.Rows.boot_list rfl) (pa_cons (pe_bltn (v := .ty "tuple") (by rfl) Z.b_tuple PyProof.Rows.boot_tuple rfl) pa_nil))) pa_nil))))) (pw_or1 (pt_not (pt_chain op_le op_le pe_int (pe_callB call_len (by rfl) Z.b_len PySem.boot_len (pa_cons (pv 0) pa_nil)) (pe_gint (by rfl) Z.MOST_SKILLS)))))) (pss_one (ps_raise rfl (takes_of rfl rfl rfl rfl) (pmk_oex T1 T2 T3 Fe (hr.mono (by decide)) be .nil pass0 (by rfl) Z.g_NoSkill (pa_cons (pv 0) pa_nil)))) pss_nil)
      (pss_one (ps_if (PW.pt (pw_or (pt_not (pt_val (pe_callB (cr_all rfl) (by rfl) Z.b_all boot_all (pa_cons (pe_lc (own := [("name", 1)]) (by rfl) sc_must_be_names.nd (pi_seq (pv 0)) (blkOk_by (own := [("name", 1)]) (N := ["names", "name"]) (sc := defScope s_must_be_names) (by decide +kernel)) (fun _ _ _ _ _ => (pg_name (i := 1) sc_must_be_names.nd rfl (Or.inl rfl))) (fun _ _ _ _ _ => pts_nil) (fun _ _ _ _ _ => (pe_cal C_is_word (hr.mono (by decide)) (by rfl) pass0 (pa_cons (pv 1) pa_nil)))) pa_nil)))) (pw_or1 (pt_not (pt_val (pe_cal C_are_unlike (hr.mono (by decide)) (by rfl) pass0 (pa_cons (pv 0) (pa_cons (pv 0) pa_nil)))))))) (pss_one (ps_raise rfl (takes_of rfl rfl rfl rfl) (pmk_oex T1 T2 T3 Fe (hr.mono (by decide)) be .nil pass0 (by rfl) Z.g_NoSkill (pa_cons (pv 0) pa_nil)))) pss_nil))), ?_⟩
    refine ⟨_, rfl, (by show 2 ≤ sizeLine; decide), fun tp ntp => ?_⟩
    have s1 : Same H (upd H tp (.tup [.ty "list", .ty "tuple"])) := Same.new ntp
    obtain ⟨H1, e1⟩ : ∃ H1, H1 = upd H tp (.tup [.ty "list", .ty "tuple"]) := ⟨_, rfl⟩
    have at1 : H1 tp = some (.tup [.ty "list", .ty "tuple"]) := by rw [e1]; exact upd_same
    rw [← e1] at s1 ⊢
    have bad1 := bad.xn (ExtN.of s1)
    cases bad1 with
    | odd t na nb =>
      refine ⟨x, _, tp, rfl, at1, t, _, rfl, ?_⟩
      rw [lt_not na nb]
      exact ifT rfl ⟨_, rfl, (by show 1 ≤ 1000; decide), fun ax na => err_made (k.same s1) ax na⟩
    | @seq b xs hl ts short l60 no =>
      obtain ⟨T, t, eT⟩ := lt_is hl
      refine ⟨.ref b, T, tp, rfl, at1, t, _, rfl, ?_⟩
      rw [eT]
      refine ifF rfl ⟨_, rfl, _, xs.length, rfl, lenV_sq hl.sq, _, _, rfl, rfl, _, rfl, ifB (fun c1 => ?_) (fun c1 => ?_)⟩
      · refine ⟨_, _, rfl, rfl, _, rfl, ?_⟩
        show if (!decide ((xs.length : Int) ≤ 12)) = true then _ else _
        refine ifB (fun c2 => ?_) (fun c2 => ?_)
        · exact ⟨_, rfl, (by show 1 ≤ 1000; decide), fun ax na => err_made (k.same s1) ax na⟩
        · have l1 : decide (1 ≤ xs.length) = true := decide_eq_true (by have := of_decide_eq_true c1; omega)
          have l2 : decide (xs.length ≤ 12) = true := by
            rw [Bool.not_eq_false'] at c2
            exact decide_eq_true (by have := of_decide_eq_true c2; omega)
          unfold okNm at no
          rw [l1, l2, Bool.true_and, Bool.true_and] at no
          refine ⟨_, rfl, b, rfl, lc_seq hl.sq (fun i => (xs.take i).map fun y => V.bl (isWord y)) rfl (fun D nD i y Hy hi' p => ?_) fun D H2 nD s2 at2 => ?_⟩
          · have yin := List.mem_of_getElem? hi'
            obtain ⟨Ty, ty⟩ := ts y yin
            refine ⟨rfl, _, rfl, y, Ty, rfl, ty.same p.same, fun z e => short z (by rw [← e]; exact yin), fun H3 s3 => ?_⟩
            exact (p.ext s3).put nD (map_one _ hi') (take_line _ (m := 60) l60 (by decide))
          · rw [List.take_length] at at2
            have hl2 := hl.same s2
            refine ⟨D, xs.map isWord, rfl, SqL.of (by rw [at2, List.map_map]; rfl), _, rfl, ?_⟩
            have e1 : (xs.map isWord).all id = xs.all isWord := by simp [List.all_map]
            rw [e1]
            refine ifB (fun c3 => ?_) (fun c3 => ?_)
            · exact ⟨_, rfl, (by show 1 ≤ 1000; decide), fun ax na => err_made (k.same (s1.trans s2)) ax na⟩
            · rw [Bool.not_eq_false'] at c3
              rw [c3, Bool.true_and] at no
              have back : xs = (strsOf xs).map V.str := by
                refine strs_back (ns := strsOf xs) ?_
                rw [List.all_eq_true]
                intro y hy
                have wy := List.all_eq_true.mp c3 y hy
                cases y with
                | str z => exact decide_eq_true (List.mem_filterMap.mpr ⟨_, hy, rfl⟩)
                | _ => cases wy
              refine ⟨_, rfl, _, rfl, b, strsOf xs, b, xs, rfl, (by rw [← back]; exact hl2.sq), hl2.sq, fun y hy => let ⟨Ty, ty⟩ := ts y hy; ⟨Ty, ty.same s2⟩, l60, (by have e := congrArg List.length back; rw [List.length_map] at e; omega), fun H3 s3 => ?_⟩
              rw [no]
              exact ⟨_, rfl, ifT rfl ⟨_, rfl, (by show 1 ≤ 1000; decide), fun ax na => err_made (k.same ((s1.trans s2).trans s3)) ax na⟩⟩
      · exact ⟨_, rfl, ifT rfl ⟨_, rfl, (by show 1 ≤ 1000; decide), fun ax na => err_made (k.same s1) ax na⟩⟩
theorem calx_is_seen (W : AllX K mg) : Cal P w K mg base (L2.CX P w) 5 "is_seen" ["names", "value"] (spSeenE K) := by
  have Z := W.z
  obtain ⟨fd, F⟩ := Z.f_is_seen
  have C : Cal P w K mg base (L2.CX P w) 3 "must_be_names" ["names"] (spMbnE K) := calx_must_be_names W
  refine .ofX ⟨fd, F, okX F sc_is_seen (fun vs H Q E h => ?_) (fun cdv A outer s H vs Q E hr h => ?_)⟩ Z.g_is_seen (fun _ _ _ _ _ _ us hl => match us, hl with | [_, _], _ => rfl)
  · obtain ⟨x, y, rfl, _⟩ := h
    rfl
  · obtain ⟨x, y, rfl, bad, k⟩ := h
    exact ⟨_, pss_cons (ps_expr (pe_cal C (hr.mono (by decide)) (by rfl) (pass_up (takes_of rfl rfl rfl rfl)) (pa_cons (pv 0) pa_nil))) (pss_one ps_dead), _, rfl, x, rfl, bad, k⟩
theorem cal_is_answerN (Z : All K mg) : Cal P w K mg base CX0 4 "is_answer" ["names", "row"] (spAnsN K) := by
  obtain ⟨fd, F⟩ := Z.f_is_answer
  have C_is_ordered : Cal P w K mg base CX0 3 "is_ordered" ["names", "value"] (spOrd K) := cal_is_ordered Z
  have C_is_one_of : Cal P w K mg base CX0 1 "is_one_of" ["names", "value"] (spOne K) := cal_is_one_of Z
  refine .of ⟨fd, F, ok0 F sc_is_answer (fun vs H Q E h => ?_) (fun cdv A outer s H vs Q E hr h => ?_)⟩ Z.g_is_answer (fun _ _ _ _ _ _ us hl => match us, hl with | [_, _], _ => rfl)
  · obtain ⟨n, ns, x, rfl, _⟩ := h
    rfl
  · obtain ⟨n, ns, x, rfl, hn, nm, bad, k⟩ := h
    have l2 := nm.le
    refine ⟨_, (pss_cons (ps_if (PW.pt (pw_or (pt_not (pt_val (pe_callB (call_is (cn := "tuple") (by decide)) (by rfl) Z.b_isinstance boot_isinstance (pa_cons (pv 1) (pa_cons (pe_bltn (v := .ty "tuple") (by rfl) Z.b_tuple PyProof.Rows.boot_tuple rfl) pa_nil))))) (pw_or1 (pt_cmpR op_ne (pe_callB call_len (by rfl) Z.b_len PySem.boot_len (pa_cons (pv 1) pa_nil)) pe_int (nomark _))))) (pss_one (ps_ret pe_bl)) pss_nil)
      (pss_cons (ps_asg (pv 1) (pg_tup rfl (pgs_cons (pg_name (i := 2) sc_is_answer.nd rfl (Or.inl rfl)) (pgs_cons (pg_name (i := 3) sc_is_answer.nd rfl (Or.inl rfl)) (pgs_cons (pg_name (i := 4) sc_is_answer.nd rfl (Or.inl rfl)) pgs_nil)))))
      (pss_cons (ps_if (PW.pt (pw_or (pt_not (pt_val (pe_cal C_is_ordered (hr.mono (by decide)) (by rfl) pass0 (pa_cons (pv 0) (pa_cons (pv 2) pa_nil))))) (pw_or (pt_not (pt_val (pe_cal C_is_one_of (hr.mono (by decide)) (by rfl) pass0 (pa_cons (pv 0) (pa_cons (pv 3) pa_nil))))) (pw_or1 (pt_cmpR op_in_seq (pv 3) (pv 2) rfl))))) (pss_one (ps_ret pe_bl)) pss_nil)
      (pss_one (ps_ret (pe_or (pe_cmpR op_isV (pv 4) pe_bl (nomark _)) (pe_one (pe_cmpR op_isV (pv 4) pe_bl (nomark _))))))))), ?_⟩
    cases bad with
    | odd t ne =>
      refine ⟨_, rfl, x, _, rfl, t, _, rfl, ?_⟩
      exact ifT (by unfold answ; rw [decide_eq_false ne]; simp) (k H (Same.refl H))
    | @len b xs hb ne =>
      refine ⟨_, rfl, .ref b, "tuple", rfl, .tup hb, _, rfl, ifF (by decide) ?_⟩
      refine ⟨_, rfl, _, xs.length, rfl, .inr ⟨_, hb, rfl⟩, rfl, _, rfl, ?_⟩
      refine ifB (fun _ => k H (Same.refl H)) (fun e => ?_)
      exfalso
      simp only [Bool.not_eq_false', decide_eq_true_eq] at e
      injection e with e
      omega
    | @row b y sk l o T hb ov ts nr nt no =>
      refine ⟨_, rfl, .ref b, "tuple", rfl, .tup hb, _, rfl, ifF (by decide) ?_⟩
      refine ⟨_, rfl, _, 3, rfl, .inr ⟨_, hb, rfl⟩, rfl, _, rfl, ?_⟩
      refine ifF (by decide) ?_
      refine ⟨_, rfl, b, _, rfl, hb, rfl, _, _, rfl, _, _, rfl, _, _, rfl, rfl, ?_⟩
      refine ⟨_, rfl, _, rfl, n, ns, y, o, rfl, hn.sq, by omega, nm.oks, ov, fun H1 s1 => ?_⟩
      refine ⟨_, rfl, ifB (fun c1 => k _ s1) (fun c1 => ?_)⟩
      rw [Bool.not_eq_false'] at c1
      rw [c1, Bool.true_and] at no
      cases o with
      | none => cases c1
      | some xs =>
        obtain ⟨r, rfl, hr', _, _⟩ := ov
        have back := (unlike_back (Bool.and_eq_true_iff.mp c1).1).1
        refine ⟨_, rfl, _, rfl, n, ns, sk, T, rfl, hn.sq.same s1, ts.same s1, ?_⟩
        refine ⟨_, rfl, ifB (fun c2 => k _ s1) (fun c2 => ?_)⟩
        rw [Bool.not_eq_false'] at c2
        rw [c2, Bool.true_and] at no
        obtain ⟨z, rfl⟩ : ∃ z, sk = .str z := by
          cases sk with
          | str z => exact ⟨z, rfl⟩
          | _ => cases c2
        rw [back] at hr'
        refine ⟨_, rfl, _, rfl, r, _, rfl, .inr (sqT_same s1 hr'), rfl, flat_strsV _, _, rfl, ?_⟩
        rw [inV_strs]
        refine ifB (fun c3 => k _ s1) (fun c3 => ?_)
        have c3 : decide (z ∈ strsOf xs) = false := c3
        have no : (!decide (z ∈ strsOf xs) && isBlV l) = false := no
        rw [c3, Bool.not_false, Bool.true_and] at no
        have nb : ∀ b, l ≠ .bl b := fun b e => by
          rw [e] at no
          cases no
        refine ⟨_, rfl, true, rfl, nr, nt, _, rfl, ?_⟩
        rw [decide_eq_false (nb true)]
        refine ifF rfl ⟨_, rfl, false, rfl, nr, nt, ?_⟩
        rw [decide_eq_false (nb false)]
        exact k _ s1
theorem cal_is_seenN (Z : All K mg) : Cal P w K mg base CX0 5 "is_seen" ["names", "value"] (spSeenN K) := by
  obtain ⟨fd, F⟩ := Z.f_is_seen
  have C_must_be_names : Cal P w K mg base CX0 3 "must_be_names" ["names"] (spMbn K) := cal_must_be_names Z
  have C_is_answer : Cal P w K mg base CX0 4 "is_answer" ["names", "row"] (spAnsN K) := cal_is_answerN Z
  refine .of ⟨fd, F, ok0 F sc_is_seen (fun vs H Q E h => ?_) (fun cdv A outer s H vs Q E hr h => ?_)⟩ Z.g_is_seen (fun _ _ _ _ _ _ us hl => match us, hl with | [_, _], _ => rfl)
  · obtain ⟨n, ns, x, rfl, _⟩ := h
    rfl
  · obtain ⟨n, ns, x, rfl, hn, nm, bad, k⟩ := h
    refine ⟨_, (pss_cons (ps_expr (pe_cal C_must_be_names (hr.mono (by decide)) (by rfl) pass0 (pa_cons (pv 0) pa_nil)))
      (pss_one (ps_ret (pe_and (pe_callB call_isLT (by rfl) Z.b_isinstance boot_isinstance (pa_cons (pv 1) (pa_cons (pe_tup (pa_cons (pe_bltn (v := .ty "list") (by rfl) Z.b_list PyProof.Rows.boot_list rfl) (pa_cons (pe_bltn (v := .ty "tuple") (by rfl) Z.b_tuple PyProof.Rows.boot_tuple rfl) pa_nil))) pa_nil))) (pe_one (pe_callB (cr_all rfl) (by rfl) Z.b_all boot_all (pa_cons (pe_lc (own := [("row", 2)]) (by rfl) sc_is_seen.nd (pi_seq (pv 1)) (blkOk_by (own := [("row", 2)]) (N := ["names", "value", "row"]) (sc := defScope s_is_seen) (by decide +kernel)) (fun _ _ _ _ _ => (pg_name (i := 2) sc_is_seen.nd rfl (Or.inl rfl))) (fun _ _ _ _ _ => pts_nil) (fun _ _ _ _ _ => (pe_cal C_is_answer (hr.mono (by decide)) (by rfl) pass0 (pa_cons (pv 0) (pa_cons (pv 2) pa_nil))))) pa_nil))))))), ?_⟩
    refine ⟨_, rfl, n, ns, rfl, hn, nm, fun H1 s1 => ?_⟩
    refine ⟨_, rfl, (by show 2 ≤ sizeLine; decide), fun tp ntp => ?_⟩
    have s2 : Same H (upd H1 tp (.tup [.ty "list", .ty "tuple"])) := s1.trans (Same.new ntp)
    obtain ⟨H2, e2⟩ : ∃ H2, H2 = upd H1 tp (.tup [.ty "list", .ty "tuple"]) := ⟨_, rfl⟩
    have at2 : H2 tp = some (.tup [.ty "list", .ty "tuple"]) := by rw [e2]; exact upd_same
    rw [← e2] at s2 ⊢
    have bad2 := bad.xn (ExtN.of s2)
    have hn2 := hn.same s2
    cases bad2 with
    | odd t na nb =>
      refine ⟨x, _, tp, rfl, at2, t, _, rfl, ?_⟩
      rw [lt_not na nb]
      exact ifF rfl (k _ s2)
    | @rows b y hl rb =>
      obtain ⟨T, t, eT⟩ := lt_is hl
      refine ⟨.ref b, T, tp, rfl, at2, t, _, rfl, ?_⟩
      rw [eT]
      refine ifT rfl ⟨_, rfl, b, rfl, lc_seq hl.sq (fun i => (([y] : List V).take i).map fun _ => V.bl false) rfl (fun D nD i v Hy hi' p => ?_) fun D H3 nD s3 at3 => ?_⟩
      · have e : v = y := List.mem_singleton.mp (List.mem_of_getElem? hi')
        subst e
        refine ⟨rfl, _, rfl, _, rfl, n, ns, v, rfl, hn2.same p.same, nm, rb.xn (ExtN.of p.same), fun H3 s3 => ?_⟩
        exact (p.ext s3).put nD (map_one _ hi') (take_line _ (m := 60) (by show 1 ≤ 60; decide) (by decide))
      · refine ⟨D, [false], rfl, SqL.of at3, ?_⟩
        exact k _ (s2.trans s3)
theorem calx_must_be_seen (W : AllX K mg) : Cal P w K mg base (L2.CX P w) 6 "must_be_seen" ["names", "seen"] (spNSE K) := by
  have Z := W.z
  obtain ⟨fd, F⟩ := Z.f_must_be_seen
  have C : Cal P w K mg base (L2.CX P w) 5 "is_seen" ["names", "value"] (spSeenE K) := calx_is_seen W
  have C_is_seen : Cal P w K mg base CX0 5 "is_seen" ["names", "value"] (spSeenN K) := cal_is_seenN Z
  obtain ⟨fe, be, Fe⟩ := ok_noseen (P := P) (w := w) (base := base) W
  obtain ⟨T1, T2, T3, _⟩ := W.x.err (x := "NoSeen") (by simp)
  refine .ofX ⟨fd, F, okX F sc_must_be_seen (fun vs H Q E h => ?_) (fun cdv A outer s H vs Q E hr h => ?_)⟩ Z.g_must_be_seen (fun _ _ _ _ _ _ us hl => match us, hl with | [_, _], _ => rfl)
  · obtain ⟨x, y, c, f, v, rfl, _⟩ := h
    rfl
  · obtain ⟨x, y, c, f, v, rfl, bad, k⟩ := h
    cases bad with
    | names b =>
      refine ⟨_, (pss_one (ps_if (pt_not (pt_val (pe_cal C (hr.mono (by decide)) (by rfl) (pass_up (takes_of rfl rfl rfl rfl)) (pa_cons (pv 0) (pa_cons (pv 1) pa_nil))))) (pss_one ps_dead) pss_nil)), ?_⟩
      exact ⟨_, rfl, _, rfl, x, y, rfl, b, k⟩
    | @seen n ns _ hn nm b =>
      refine ⟨_, (pss_one (ps_if (pt_not (pt_val (pe_cal C_is_seen (hr.mono (by decide)) (by rfl) pass0 (pa_cons (pv 0) (pa_cons (pv 1) pa_nil))))) (pss_one (ps_raise rfl (takes_of rfl rfl rfl rfl) (pmk_oex T1 T2 T3 Fe (hr.mono (by decide)) be .nil pass0 (by rfl) Z.g_NoSeen (pa_cons (pv 1) pa_nil)))) pss_nil)), ?_⟩
      exact ⟨_, rfl, _, rfl, n, ns, y, rfl, hn, nm, b, fun H1 s1 => ⟨_, rfl, ifT rfl ⟨_, rfl, (by show 1 ≤ 1000; decide), fun ax na => err_made (k.same s1) ax na⟩⟩⟩
theorem calx_explains (W : AllX K mg) : Cal P w K mg base (L2.CX P w) 7 "explains" ["names", "wants", "seen"] (spWhyE K) := by
  have Z := W.z
  obtain ⟨fd, F⟩ := Z.f_explains
  have C : Cal P w K mg base (L2.CX P w) 6 "must_be_seen" ["names", "seen"] (spNSE K) := calx_must_be_seen W
  refine .ofX ⟨fd, F, okX F sc_explains (fun vs H Q E h => ?_) (fun cdv A outer s H vs Q E hr h => ?_)⟩ Z.g_explains (fun _ _ _ _ _ _ us hl => match us, hl with | [_, _, _], _ => rfl)
  · obtain ⟨n, m, s, c, f, y, rfl, _⟩ := h
    rfl
  · obtain ⟨n, m, sn, c, f, y, rfl, bad, k⟩ := h
    exact ⟨_, pss_cons (ps_expr (pe_cal C (hr.mono (by decide)) (by rfl) (pass_up (takes_of rfl rfl rfl rfl)) (pa_cons (pv 0) (pa_cons (pv 2) pa_nil)))) (pss_cons ps_dead (pss_one ps_dead)), _, rfl, _, rfl, n, sn, c, f, y, rfl, bad, k⟩
theorem calx_greatest_wants (W : AllX K mg) : Cal P w K mg base (L2.CX P w) 8 "greatest_wants" ["names", "seen"] (spNSE K) := by
  have Z := W.z
  obtain ⟨fd, F⟩ := Z.f_greatest_wants
  have C : Cal P w K mg base (L2.CX P w) 6 "must_be_seen" ["names", "seen"] (spNSE K) := calx_must_be_seen W
  refine .ofX ⟨fd, F, okX F sc_greatest_wants (fun vs H Q E h => ?_) (fun cdv A outer s H vs Q E hr h => ?_)⟩ Z.g_greatest_wants (fun _ _ _ _ _ _ us hl => match us, hl with | [_, _], _ => rfl)
  · obtain ⟨n, s, c, f, y, rfl, _⟩ := h
    rfl
  · obtain ⟨n, sn, c, f, y, rfl, bad, k⟩ := h
    exact ⟨_, pss_cons (ps_expr (pe_cal C (hr.mono (by decide)) (by rfl) (pass_up (takes_of rfl rfl rfl rfl)) (pa_cons (pv 0) (pa_cons (pv 1) pa_nil)))) (pss_cons ps_dead (pss_one ps_dead)), _, rfl, _, rfl, n, sn, c, f, y, rfl, bad, k⟩
theorem calx_may (W : AllX K mg) : Cal P w K mg base (L2.CX P w) 9 "may" ["names", "seen", "skill"] (spQE K) := by
  have Z := W.z
  obtain ⟨fd, F⟩ := Z.f_may
  have C : Cal P w K mg base (L2.CX P w) 8 "greatest_wants" ["names", "seen"] (spNSE K) := calx_greatest_wants W
  have C_greatest_wants : Cal P w K mg base CX0 8 "greatest_wants" ["names", "seen"] (spGreat K) := cal_greatest_wants Z
  have C_is_one_of : Cal P w K mg base CX0 1 "is_one_of" ["names", "value"] (spOne K) := cal_is_one_of Z
  obtain ⟨fe, be, Fe⟩ := ok_noskill (P := P) (w := w) (base := base) W
  obtain ⟨T1, T2, T3, _⟩ := W.x.err (x := "NoSkill") (by simp)
  refine .ofX ⟨fd, F, okX F sc_may (fun vs H Q E h => ?_) (fun cdv A outer s H vs Q E hr h => ?_)⟩ Z.g_may (fun _ _ _ _ _ _ us hl => match us, hl with | [_, _, _], _ => rfl)
  · obtain ⟨n, s, z, c, f, y, rfl, _⟩ := h
    rfl
  · obtain ⟨n, sn, z, c, f, y, rfl, bad, k⟩ := h
    cases bad with
    | ns b =>
      refine ⟨_, (pss_cons (ps_set (i := 3) sc_may.nd rfl (Or.inl rfl) (pe_cal C (hr.mono (by decide)) (by rfl) (pass_up (takes_of rfl rfl rfl rfl)) (pa_cons (pv 0) (pa_cons (pv 1) pa_nil))))
      (pss_cons (ps_if (pt_not (pt_val (pe_cal C_is_one_of (hr.mono (by decide)) (by rfl) pass0 (pa_cons (pv 0) (pa_cons (pv 2) pa_nil))))) (pss_one ps_dead) pss_nil)
      (pss_one ps_dead))), ?_⟩
      exact ⟨_, rfl, _, rfl, n, sn, c, f, y, rfl, b, k⟩
    | @skill na sa ns as _ T td tz no =>
      refine ⟨_, (pss_cons (ps_set (i := 3) sc_may.nd rfl (Or.inl rfl) (pe_cal C_greatest_wants (hr.mono (by decide)) (by rfl) pass0 (pa_cons (pv 0) (pa_cons (pv 1) pa_nil))))
      (pss_cons (ps_if (pt_not (pt_val (pe_cal C_is_one_of (hr.mono (by decide)) (by rfl) pass0 (pa_cons (pv 0) (pa_cons (pv 2) pa_nil))))) (pss_one (ps_raise rfl (takes_of rfl rfl rfl rfl) (pmk_oex T1 T2 T3 Fe (hr.mono (by decide)) be .nil pass0 (by rfl) Z.g_NoSkill (pa_cons (pv 2) pa_nil)))) pss_nil)
      (pss_one ps_dead))), ?_⟩
      refine ⟨_, rfl, _, rfl, na, sa, ns, as, rfl, td, fun v H1 s1 gr => ?_⟩
      refine ⟨_, rfl, _, rfl, na, ns, z, T, rfl, td.names.sq.same s1, tz.same s1, ?_⟩
      rw [no]
      exact ⟨_, rfl, ifT rfl ⟨_, rfl, (by show 1 ≤ 1000; decide), fun ax na => err_made (k.same s1) ax na⟩⟩
theorem calx_must (W : AllX K mg) : Cal P w K mg base (L2.CX P w) 10 "must" ["names", "seen", "skill"] (spQE K) := by
  have Z := W.z
  obtain ⟨fd, F⟩ := Z.f_must
  have C : Cal P w K mg base (L2.CX P w) 9 "may" ["names", "seen", "skill"] (spQE K) := calx_may W
  refine .ofX ⟨fd, F, okX F sc_must (fun vs H Q E h => ?_) (fun cdv A outer s H vs Q E hr h => ?_)⟩ Z.g_must (fun _ _ _ _ _ _ us hl => match us, hl with | [_, _, _], _ => rfl)
  · obtain ⟨n, s, z, c, f, y, rfl, _⟩ := h
    rfl
  · obtain ⟨n, sn, z, c, f, y, rfl, bad, k⟩ := h
    refine ⟨_, (pss_cons (ps_set (i := 3) sc_must.nd rfl (Or.inr rfl) (pe_cal C (hr.mono (by decide)) (by rfl) (pass_up (takes_of rfl rfl rfl rfl)) (pa_cons (pv 0) (pa_cons (pv 1) (pa_cons (pv 2) pa_nil)))))
      (pss_one ps_dead)), ?_⟩
    exact ⟨_, rfl, _, rfl, _, rfl, n, sn, z, c, f, y, rfl, bad, k⟩
theorem calx_next_ask (W : AllX K mg) : Cal P w K mg base (L2.CX P w) 11 "next_ask" ["names", "seen", "skill"] (spQE K) := by
  have Z := W.z
  obtain ⟨fd, F⟩ := Z.f_next_ask
  have C : Cal P w K mg base (L2.CX P w) 9 "may" ["names", "seen", "skill"] (spQE K) := calx_may W
  have C2 : Cal P w K mg base (L2.CX P w) 10 "must" ["names", "seen", "skill"] (spQE K) := calx_must W
  refine .ofX ⟨fd, F, okX F sc_next_ask (fun vs H Q E h => ?_) (fun cdv A outer s H vs Q E hr h => ?_)⟩ Z.g_next_ask (fun _ _ _ _ _ _ us hl => match us, hl with | [_, _, _], _ => rfl)
  · obtain ⟨n, s, z, c, f, y, rfl, _⟩ := h
    rfl
  · obtain ⟨n, sn, z, c, f, y, rfl, bad, k⟩ := h
    refine ⟨_, (pss_one (ps_ret (pe_cmpR (op_neD hr.units) (pe_cal C (hr.mono (by decide)) (by rfl) (pass_up (takes_of rfl rfl rfl rfl)) (pa_cons (pv 0) (pa_cons (pv 1) (pa_cons (pv 2) pa_nil)))) (pe_cal C2 (hr.mono (by decide)) (by rfl) (pass_up (takes_of rfl rfl rfl rfl)) (pa_cons (pv 0) (pa_cons (pv 1) (pa_cons (pv 2) pa_nil)))) (nomark _)))), ?_⟩
    exact ⟨_, rfl, _, rfl, _, rfl, n, sn, z, c, f, y, rfl, bad, k⟩
end
end Rt
end
section
set_option Elab.async false
set_option linter.all false
set_option maxRecDepth 100000
set_option maxHeartbeats 8000000
/-! what is called with a lambda and tells its error -/
namespace Rt
open PySem PySem.Spec PyProof.Rows L2
open LamX (GivesTo CodeO)
/-- the two errors that are told -/
def Kind2 (c f w : Str) : Prop := (c = "NoSkill" ∧ f = "skill" ∧ w = "skill") ∨ (c = "NoSeen" ∧ f = "seen" ∧ w = "seen")
def Tells (K : PySem.W.Frag) (Q : VK) : XK := fun cls d H' => ∃ (c f w : Str) (dd : Addr) (y : V) (t : Str), Kind2 c f w ∧ cls = .ref (He.ga K c) ∧ d = some dd ∧ H' dd = some (.xd [(f, y)]) ∧ Rp K H' y t ∧
  ∀ L, H' L = none → Q (.ref L) (upd H' L (.lst [.str w, .str t]))
abbrev TC (K : PySem.W.Frag) : (XK → Hp → VK → Prop) → Hp → VK → Prop := fun tl H Q => tl (Tells K Q) H (fun _ H' => 1 ≤ sizeLine ∧ ∀ L, H' L = none → Q (.ref L) (upd H' L (.lst [.str "none"])))
theorem caught_gives {X : Cx} {g : Addr} {cdg : Value} {q : Str} (W : AllX X.K X.mg) (gu : X.A.guards = some []) (room : X.A.units + 90 < cLine) :
    GivesTo X ["_law_call", "e"] "_law_caught" (defScope s_law_caught) g cdg (defBody s_law_caught) "_law_call" q (TC X.K) := by
  intro f c' s H Q tl act hc h
  have Z := W.z
  have rep : ∀ a pn, CallR ((cxOf C8.CX0 X.prog X.w X.K X.mg X.base ["_law_call", "e"] "_law_caught" (defScope s_law_caught) g cdg X.A X.stack s H C8.E0).nox.suite a pn) (.builtin "repr") (rRp X.K) := fun a pn =>
    call_rp (X := (cxOf C8.CX0 X.prog X.w X.K X.mg X.base ["_law_call", "e"] "_law_caught" (defScope s_law_caught) g cdg X.A X.stack s H C8.E0).nox.suite a pn) gu (by show X.A.units + 3 + 70 < cLine; omega)
  refine ⟨_, pss_cons (ps_try_row (i := 1) (n := "e") (Wout := fun _ _ _ _ => False) (l := [(.ref (He.ga X.K "NoBook"), fun _ _ _ _ _ _ => False), (.ref (He.ga X.K "NoSkill"), _), (.ref (He.ga X.K "NoBuild"), fun _ _ _ _ _ _ => False), (.ref (He.ga X.K "NoStep"), fun _ _ _ _ _ _ => False), (.ref (He.ga X.K "NoPlain"), fun _ _ _ _ _ _ => False), (.ref (He.ga X.K "NoNumber"), fun _ _ _ _ _ _ => False), (.ref (He.ga X.K "NoWorth"), fun _ _ _ _ _ _ => False), (.ref (He.ga X.K "NoSeen"), _), (.ref (He.ga X.K "NoKind"), fun _ _ _ _ _ _ => False), (.ref (He.ga X.K "NothingBack"), fun _ _ _ _ _ _ => False), (.ref (He.ga X.K "NoNote"), fun _ _ _ _ _ _ => False)])
    (tb := fun W D σ H => ∃ Ech : XK, (∀ cls d σ' H', Ech cls d H' → W cls d σ' H') ∧ σ[0]? = some (some (.ref f)) ∧ H c' = some (CodeO c' q) ∧ tl Ech H fun _ H' => D.nx σ H')
    rfl rfl sc_law_caught.nd rfl rfl L2.takes0 (fun W pn xe tk _ => ?_)
    (.cons ⟨by rfl, by decide, .inl Z.g_NoBook⟩ (fun a oe cls d pn hz hf => pss_one ps_dead) (.cons ⟨by rfl, by decide, .inl Z.g_NoSkill⟩ (fun a oe cls d pn hz hf => pss_one (ps_ret (pe_lst (pa_cons pe_str (pa_cons (pe_callB (rep a ((a, oe) :: pn)) (by rfl) Z.b_repr PyProof.Rows.boot_repr (pa_cons (pe_xf (W.x.err (x := "NoSkill") (by simp)).2.2.2 Z.n_NoSkill hz hf (pv 1)) pa_nil)) pa_nil))))) (.cons ⟨by rfl, by decide, .inl Z.g_NoBuild⟩ (fun a oe cls d pn hz hf => pss_one ps_dead) (.cons ⟨by rfl, by decide, .inl Z.g_NoStep⟩ (fun a oe cls d pn hz hf => pss_one ps_dead) (.cons ⟨by rfl, by decide, .inl Z.g_NoPlain⟩ (fun a oe cls d pn hz hf => pss_one ps_dead) (.cons ⟨by rfl, by decide, .inl Z.g_NoNumber⟩ (fun a oe cls d pn hz hf => pss_one ps_dead) (.cons ⟨by rfl, by decide, .inl Z.g_NoWorth⟩ (fun a oe cls d pn hz hf => pss_one ps_dead) (.cons ⟨by rfl, by decide, .inl Z.g_NoSeen⟩ (fun a oe cls d pn hz hf => pss_one (ps_ret (pe_lst (pa_cons pe_str (pa_cons (pe_callB (rep a ((a, oe) :: pn)) (by rfl) Z.b_repr PyProof.Rows.boot_repr (pa_cons (pe_xf (W.x.err (x := "NoSeen") (by simp)).2.2.2 Z.n_NoSeen hz hf (pv 1)) pa_nil)) pa_nil))))) (.cons ⟨by rfl, by decide, .inl Z.g_NoKind⟩ (fun a oe cls d pn hz hf => pss_one ps_dead) (.cons ⟨by rfl, by decide, .inl Z.g_NothingBack⟩ (fun a oe cls d pn hz hf => pss_one ps_dead) (.cons ⟨by rfl, by decide, .inl Z.g_NoNote⟩ (fun a oe cls d pn hz hf => pss_one ps_dead) .nil)))))))))))) (pss_one (ps_ret (pe_lst (pa_cons pe_str pa_nil)))), ?_⟩
  · refine ⟨fun pins s' σ H' D I ⟨Ech, hW, h1, h2, h3⟩ => ?_⟩
    exact (pss_one (ps_expr (act W pn xe Ech _ _ tk hW))).run pins s' σ H' D I ⟨h1, h2, h3⟩
  · refine ⟨Tells X.K Q, ?_, rfl, hc, h⟩
    rintro cls d σ H' ⟨c, f, w, dd, y, t, ht, rfl, rfl, hx, rp, k⟩
    rcases ht with ⟨rfl, rfl, rfl⟩ | ⟨rfl, rfl, rfl⟩
    · refine ⟨false, Z.x_NoSkill_NoBook, (fun z => nomatch z), fun _ => ⟨true, Z.x_NoSkill_NoSkill, fun _ a na len => ?_, (fun z => nomatch z)⟩⟩
      have at1 : (σ.set 1 (some (V.ref a)))[1]? = some (some (V.ref a)) := by
        rw [List.getElem?_set_self (by rw [len]; show 1 < 2; decide)]
      exact ⟨.ref a, at1, rfl, rfl, dd, _, y, rfl, hx, rfl, y, t, rfl, rp, (by show 2 ≤ sizeLine; decide), fun L nL => k L nL⟩
    · refine ⟨false, Z.x_NoSeen_NoBook, (fun z => nomatch z), fun _ => ⟨false, Z.x_NoSeen_NoSkill, (fun z => nomatch z), fun _ => ⟨false, Z.x_NoSeen_NoBuild, (fun z => nomatch z), fun _ => ⟨false, Z.x_NoSeen_NoStep, (fun z => nomatch z), fun _ => ⟨false, Z.x_NoSeen_NoPlain, (fun z => nomatch z), fun _ => ⟨false, Z.x_NoSeen_NoNumber, (fun z => nomatch z), fun _ => ⟨false, Z.x_NoSeen_NoWorth, (fun z => nomatch z), fun _ => ⟨true, Z.x_NoSeen_NoSeen, fun _ a na len => ?_, (fun z => nomatch z)⟩⟩⟩⟩⟩⟩⟩⟩
      have at1 : (σ.set 1 (some (V.ref a)))[1]? = some (some (V.ref a)) := by
        rw [List.getElem?_set_self (by rw [len]; show 1 < 2; decide)]
      exact ⟨.ref a, at1, rfl, rfl, dd, _, y, rfl, hx, rfl, y, t, rfl, rp, (by show 2 ≤ sizeLine; decide), fun L nL => k L nL⟩
end Rt
end
section
set_option Elab.async false
set_option linter.all false
set_option maxRecDepth 100000
set_option maxHeartbeats 4000000
/-! the law's draws: names, parts of a list -/
namespace Rt
open PySem PySem.Spec PyProof.Rows L2
def T1 : List Str := ["a", "b", "c", "d"]
def T2 : List Str := ["z", "abcdefgh", "a", "b"]
def T3 : List Str := ["d", "c", "b", "a"]
/-- drawn names -/
def NmT (ns : List Str) : Prop := ∃ N m, (N = T1 ∨ N = T2 ∨ N = T3) ∧ 1 ≤ m ∧ m ≤ 4 ∧ ns = N.take m
def okNames (N : List Str) : Bool := decide N.Nodup && (N.all (fun z => isWord (.str z) && decide (z.length ≤ 1000)) && N.all PyData.strOk)
theorem ok_T : okNames T1 = true ∧ okNames T2 = true ∧ okNames T3 = true := by decide +kernel
theorem okNames_nm {N ns : List Str} (h : okNames N = true) (s : ns.Sublist N) (l : 1 ≤ ns.length) (l2 : ns.length ≤ 12) : Nm ns := by
  unfold okNames at h
  rw [Bool.and_eq_true, Bool.and_eq_true] at h
  obtain ⟨h1, h2, h3⟩ := h
  refine ⟨(of_decide_eq_true h1).sublist s, l, l2, fun z hz => ?_, fun z hz => List.all_eq_true.mp h3 z (s.subset hz)⟩
  have q := List.all_eq_true.mp h2 z (s.subset hz)
  rw [Bool.and_eq_true] at q
  exact ⟨q.1, of_decide_eq_true q.2⟩
theorem NmT.nm {ns : List Str} (h : NmT ns) : Nm ns ∧ ns.length ≤ 4 := by
  obtain ⟨N, m, hN, m1, m4, rfl⟩ := h
  have l4 : N.length = 4 := by rcases hN with rfl | rfl | rfl <;> rfl
  have lt : (N.take m).length = m := by
    rw [List.length_take, l4]
    omega
  refine ⟨okNames_nm (N := N) ?_ (List.take_sublist _ _) (by omega) (by omega), by omega⟩
  rcases hN with rfl | rfl | rfl
  · exact ok_T.1
  · exact ok_T.2.1
  · exact ok_T.2.2
def spTNames : Sp := fun vs H Q _ => ∃ (p : Addr) (t : Int), vs = [.ref p, .int t] ∧ PoolAt H p ∧ 1 ≤ t ∧ t ≤ 4 ∧ ∀ (n : Addr) (ns : List Str) (H' : Hp), H n = none → Aft p H H' → H' n = some (.tup (ns.map V.str)) → NmT ns → (ns.length : Int) ≤ t → Q (.ref n) H'
def spParts (K : PySem.W.Frag) : Sp := fun vs H Q _ => ∃ (a : Addr) (l : List Str), vs = [.ref a] ∧ SqL K H a (l.map V.str) ∧ l.length ≤ 12 ∧ ∀ (f : Addr) (xs : List V) (H' : Hp), H f = none → Same H H' → H' f = some (.lst xs) → Paired (BT H') xs (partsB l) → Q (.ref f) H'
theorem parts_take (l : List Str) (i : Nat) : ((l.take i).foldl partsF [[]]).length ≤ 2 ^ l.length := by
  rw [parts_len]
  show 1 * 2 ^ (l.take i).length ≤ _
  rw [Nat.one_mul]
  exact Nat.pow_le_pow_right (by decide) (List.length_take_le' _ _)
section
variable {P : Program} {w : World} {K : PySem.W.Frag} {mg : Str → Option Value} {base : Heap}
theorem cal_law_told_names (Z : All K mg) : Cal P w K mg base CX0 3 "_law_told_names" ["_law_pool_here", "_law_top"] spTNames := by
  obtain ⟨fd, F⟩ := Z.f_law_told_names
  have C_law_take : Cal P w K mg base CX0 1 "_law_take" ["_law_pool_here", "_law_bound"] spTake := cal_law_take Z
  have C_law_one : Cal P w K mg base CX0 2 "_law_one" ["_law_pool_here", "_law_things"] (spLone K) := cal_law_one Z
  refine .of ⟨fd, F, ok0 F sc_law_told_names (fun vs H Q E h => ?_) (fun cdv A outer s H vs Q E hr h => ?_)⟩ Z.g_law_told_names (fun _ _ _ _ _ _ us hl => match us, hl with | [_, _], _ => rfl)
  · obtain ⟨p, t, rfl, _⟩ := h
    rfl
  · obtain ⟨p, t, rfl, hp, t1, t4, k⟩ := h
    refine ⟨_, (pss_cons (ps_set (i := 2) sc_law_told_names.nd rfl (Or.inl rfl) (pe_cal C_law_one (hr.mono (by decide)) (by rfl) pass0 (pa_cons (pv 0) (pa_cons (pe_lst (pa_cons (pe_lst (pa_cons pe_str (pa_cons pe_str (pa_cons pe_str (pa_cons pe_str pa_nil))))) (pa_cons (pe_lst (pa_cons pe_str (pa_cons pe_str (pa_cons pe_str (pa_cons pe_str pa_nil))))) (pa_cons (pe_lst (pa_cons pe_str (pa_cons pe_str (pa_cons pe_str (pa_cons pe_str pa_nil))))) pa_nil)))) pa_nil))))
      (pss_one (ps_ret (pe_callTy call_tuple_of (by rfl) Z.b_tuple PyProof.Rows.boot_tuple (pa_cons (pe_slice sl_list (pv 2) po_none (po_some (pe_op op_add pe_int (pe_cal C_law_take (hr.mono (by decide)) (by rfl) pass0 (pa_cons (pv 0) (pa_cons (pv 1) pa_nil)))))) pa_nil))))), ?_⟩
    refine ⟨_, rfl, (by show 4 ≤ sizeLine; decide), fun l1 n1 => ⟨(by show 4 ≤ sizeLine; decide), fun l2 n2 => ⟨(by show 4 ≤ sizeLine; decide), fun l3 n3 => ⟨(by show 3 ≤ sizeLine; decide), fun l4 n4 => ?_⟩⟩⟩⟩
    have s4 : Same H (upd (upd (upd (upd H l1 (.lst (T1.map V.str))) l2 (.lst (T2.map V.str))) l3 (.lst (T3.map V.str))) l4 (.lst [.ref l1, .ref l2, .ref l3])) := (((Same.new n1).trans (Same.new n2)).trans (Same.new n3)).trans (Same.new n4)
    have a4 : (upd (upd (upd (upd H l1 (.lst (T1.map V.str))) l2 (.lst (T2.map V.str))) l3 (.lst (T3.map V.str))) l4 (.lst [.ref l1, .ref l2, .ref l3])) l4 = some (.lst [.ref l1, .ref l2, .ref l3]) := upd_same
    have a3 : (upd (upd (upd (upd H l1 (.lst (T1.map V.str))) l2 (.lst (T2.map V.str))) l3 (.lst (T3.map V.str))) l4 (.lst [.ref l1, .ref l2, .ref l3])) l3 = some (.lst (T3.map V.str)) := Same.new n4 _ _ upd_same
    have a2 : (upd (upd (upd (upd H l1 (.lst (T1.map V.str))) l2 (.lst (T2.map V.str))) l3 (.lst (T3.map V.str))) l4 (.lst [.ref l1, .ref l2, .ref l3])) l2 = some (.lst (T2.map V.str)) := Same.new n4 _ _ (Same.new n3 _ _ upd_same)
    have a1 : (upd (upd (upd (upd H l1 (.lst (T1.map V.str))) l2 (.lst (T2.map V.str))) l3 (.lst (T3.map V.str))) l4 (.lst [.ref l1, .ref l2, .ref l3])) l1 = some (.lst (T1.map V.str)) := Same.new n4 _ _ (Same.new n3 _ _ (Same.new n2 _ _ upd_same))
    obtain ⟨H4, e4⟩ : ∃ H4, H4 = (upd (upd (upd (upd H l1 (.lst (T1.map V.str))) l2 (.lst (T2.map V.str))) l3 (.lst (T3.map V.str))) l4 (.lst [.ref l1, .ref l2, .ref l3])) := ⟨_, rfl⟩
    have f2 : H l2 = none := (Same.new n1).free n2
    have f3 : H l3 = none := ((Same.new n1).trans (Same.new n2)).free n3
    have f4 : H l4 = none := (((Same.new n1).trans (Same.new n2)).trans (Same.new n3)).free n4
    have p1 := hp.ne n1
    have p2 := hp.ne f2
    have p3 := hp.ne f3
    have p4 := hp.ne f4
    show spLone K [.ref p, .ref l4] (upd (upd (upd (upd H l1 (.lst (T1.map V.str))) l2 (.lst (T2.map V.str))) l3 (.lst (T3.map V.str))) l4 (.lst [.ref l1, .ref l2, .ref l3])) _ E
    rw [← e4] at s4 a1 a2 a3 a4 ⊢
    clear e4
    have aft0 : Aft p H H4 := ⟨hp.same s4, fun b o _ hb => s4 _ _ hb⟩
    refine ⟨p, l4, _, rfl, aft0.pool, .inl (SqL.of a4), p4, (by show 0 < 3; decide), (by show 3 ≤ 1000; decide), fun x H5 hx a5 => ?_⟩
    obtain ⟨N, l, rfl, hl, np, hN⟩ : ∃ N l, x = .ref l ∧ H5 l = some (.lst (N.map V.str)) ∧ l ≠ p ∧ (N = T1 ∨ N = T2 ∨ N = T3) := by
      rcases List.mem_cons.mp hx with rfl | hx
      · exact ⟨T1, l1, rfl, a5.keep _ _ p1 a1, p1, .inl rfl⟩
      rcases List.mem_cons.mp hx with rfl | hx
      · exact ⟨T2, l2, rfl, a5.keep _ _ p2 a2, p2, .inr (.inl rfl)⟩
      · rw [List.mem_singleton.mp hx]
        exact ⟨T3, l3, rfl, a5.keep _ _ p3 a3, p3, .inr (.inr rfl)⟩
    have aft5 := aft0.trans a5
    refine ⟨_, rfl, _, rfl, _, rfl, p, t, rfl, aft5.pool, by omega, by omega, fun r H6 r0 r1 a6 => ?_⟩
    have aft6 := aft5.trans a6
    have hl6 := a6.keep _ _ np hl
    refine ⟨_, _, rfl, rfl, _, rfl, l, _, rfl, SqL.of hl6, fun sl fsl => ⟨sl, _, rfl, .inl ⟨SqL.of upd_same, fun n nn => ?_⟩⟩⟩
    have e7 : cutV (N.map V.str) none (some (1 + r)) = (N.take (1 + r).toNat).map V.str := by
      have z : (1 + r) = (((1 + r).toNat : Nat) : Int) := by omega
      rw [z, cut_take, List.map_take]
      rfl
    rw [e7] at nn ⊢
    have m1 : 1 ≤ (1 + r).toNat ∧ (1 + r).toNat ≤ 4 := by omega
    refine k n _ _ ((aft6.new fsl).free' nn) ((aft6.new fsl).new nn) upd_same ⟨N, _, hN, m1.1, m1.2, rfl⟩ (by rw [List.length_take]; omega)
theorem cal_law_parts (Z : All K mg) : Cal P w K mg base CX0 1 "_law_parts" ["_law_some"] (spParts K) := by
  obtain ⟨fd, F⟩ := Z.f_law_parts
  refine .of ⟨fd, F, ok0 F sc_law_parts (fun vs H Q E h => ?_) (fun cdv A outer s H vs Q E hr h => ?_)⟩ Z.g_law_parts (fun _ _ _ _ _ _ us hl => match us, hl with | [_], _ => rfl)
  · obtain ⟨a, l, rfl, _⟩ := h
    rfl
  · obtain ⟨a, l, rfl, ha, l12, k⟩ := h
    refine ⟨_, (pss_cons (ps_set (i := 1) sc_law_parts.nd rfl (Or.inl rfl) (pe_lst (pa_cons (pe_tup pa_nil) pa_nil)))
      (pss_cons (ps_for PassesOwn.never rfl (pi_seq (pv 0)) (pg_name (i := 2) sc_law_parts.nd rfl (Or.inr rfl)) (pss_one (ps_set (i := 1) sc_law_parts.nd rfl (Or.inl rfl) (pe_op op_cat (pv 1) (pe_lc (own := [("_law_row", 3)]) (by rfl) sc_law_parts.nd (pi_seq (pv 1)) (blkOk_by (own := [("_law_row", 3)]) (N := ["_law_some", "_law_found", "_law_name", "_law_row"]) (sc := defScope s_law_parts) (by decide +kernel)) (fun _ _ _ _ _ => (pg_name (i := 3) sc_law_parts.nd rfl (Or.inl rfl))) (fun _ _ _ _ _ => pts_nil) (fun _ _ _ _ _ => (pe_op (show OpR _ (binaryOp .Add) (rCatA K) from op_catA) (pv 3) (pe_tup (pa_cons (pv 2) pa_nil)))))))))
      (pss_one (ps_ret (pv 1))))), ?_⟩
    refine ⟨Nat.zero_le _, fun e1 ne1 => ⟨(by show 1 ≤ sizeLine; decide), fun fo nfo => ?_⟩⟩
    have fofree : H fo = none := (Same.new ne1).free nfo
    have s2 : Same H (upd (upd H e1 (.tup [])) fo (.lst [.ref e1])) := (Same.new ne1).trans (Same.new nfo)
    refine ⟨_, rfl, a, rfl, .inl ⟨⟨_, s2.seq ha⟩, ?_⟩⟩
    have b4 : 2 ^ l.length ≤ 4096 := Nat.pow_le_pow_right (n := 2) (by decide) l12
    refine for_list (K := K) (a := a) (xs := l.map V.str) (fun i σ H6 => ∃ (fo : Addr) (xf : List V) (s2 : Option V), σ = [some (.ref a), some (.ref fo), s2, none] ∧ Same H H6 ∧ H fo = none ∧ H6 fo = some (.lst xf) ∧ Paired (BT H6) xf ((l.take i).foldl partsF [[]]))
      ⟨fo, [.ref e1], none, rfl, s2, fofree, upd_same, .cons ⟨e1, rfl, Same.new nfo _ _ upd_same⟩ .nil⟩ (fun i σ H6 _ ⟨_, _, _, _, s, _⟩ => s.seq ha) ?_ ?_
    · rintro i y σ H6 hi ⟨fo, xf, sl, rfl, s6, ffo, hfo, pf⟩
      obtain ⟨z, rfl, hz⟩ := strs_get hi
      obtain ⟨acc, eacc⟩ : ∃ acc, acc = (l.take i).foldl partsF [[]] := ⟨_, rfl⟩
      rw [← eacc] at pf
      have lacc : acc.length ≤ 4096 := by
        have := parts_take l i
        rw [← eacc] at this
        omega
      have lxf : xf.length = acc.length := Paired.length pf
      have nx : (l.take (i + 1)).foldl partsF [[]] = partsF acc z := by
        rw [take_one hz, List.foldl_append, ← eacc]
        rfl
      have b12 : (l.take (i + 1)).length ≤ 12 := Nat.le_trans (List.length_take_le' _ _) l12
      have lrow : ∀ b ∈ acc, b.length ≤ 12 := fun b hb => by
        rw [eacc] at hb
        exact Nat.le_trans (mem_parts.mp hb).length_le (Nat.le_trans (List.length_take_le' _ _) l12)
      refine ⟨_, rfl, _, rfl, fo, rfl, lc_new (.inl (SqL.of hfo)) BT (fun j => (acc.take j).map fun b => b ++ [z]) rfl (fun D nD j y Hy hj pp => ?_) fun T HT ys nT sT hT pT => ?_⟩
      · obtain ⟨b, hb, q, rfl, hq⟩ := paired_at pf hj
        have hq2 := pp.same _ _ hq
        have lb := lrow b (List.mem_of_getElem? hb)
        have st : (acc.take (j + 1)).map (fun b => b ++ [z]) = (acc.take j).map (fun b => b ++ [z]) ++ [b ++ [z]] := map_one _ hb
        have sl : ((acc.take j).map fun b => b ++ [z]).length < sizeLine := take_line _ lacc (by decide)
        refine ⟨rfl, _, rfl, _, rfl, (by show 1 ≤ sizeLine; decide), fun t nt => ⟨q, t, b.map V.str, [.str z], rfl, rfl, SqT.of (Same.new nt _ _ hq2), SqT.of upd_same, ?_, fun e0 => ?_, fun _ e0 => (nomatch e0), fun _ _ u nu => ?_⟩⟩
        · rw [List.length_map]
          show b.length + 1 ≤ sizeLine
          rw [sizeLine_eq]
          omega
        · have e1 : b = [] := List.map_eq_nil_iff.mp e0
          refine (pp.ext bt_mono (Same.new nt)).put bt_mono nD ⟨t, rfl, ?_⟩ st sl
          rw [upd_same, e1]
          rfl
        · refine ((pp.ext bt_mono (Same.new nt)).ext bt_mono (Same.new nu)).put bt_mono nD ⟨u, rfl, ?_⟩ st sl
          rw [upd_same, List.map_append]
          rfl
      · rw [lxf, List.take_length] at pT
        have ly : ys.length = acc.length := by
          rw [Paired.length pT, List.length_map]
        refine ⟨_, _, _, _, rfl, rfl, sT _ _ hfo, hT, ?_, fun u nu => ?_⟩
        · rw [lxf, ly, sizeLine_eq]
          omega
        · have sU : Same H6 (upd HT u (.lst (xf ++ ys))) := sT.trans (Same.new nu)
          refine ⟨u, xf ++ ys, _, rfl, s6.trans sU, (s6.trans sT).free nu, upd_same, ?_⟩
          rw [nx]
          exact paired_app (paired_mono (fun x w r => bt_mono _ _ _ _ (Tk.new nu) r) pT) (paired_mono (fun x w r => bt_mono _ _ _ _ (Tk.of sU) r) pf)
    · rintro σ H6 ⟨fo, xf, sl, rfl, s6, ffo, hfo, pf⟩
      rw [List.length_map, List.take_length] at pf
      exact ⟨_, rfl, k fo xf H6 ffo s6 hfo pf⟩
end
end Rt
end
section
set_option Elab.async false
set_option linter.all false
set_option maxRecDepth 100000
set_option maxHeartbeats 8000000
/-! the law's draws: answers -/
namespace Rt
open PySem PySem.Spec PyProof.Rows L2
theorem paired_mem {α : Type} {R : V → α → Prop} {xs : List V} {ws : List α} {x : V} (h : Paired R xs ws) (hx : x ∈ xs) : ∃ w, w ∈ ws ∧ R x w := by
  obtain ⟨i, hi⟩ := List.getElem?_of_mem hx
  obtain ⟨w, h1, h2⟩ := paired_at h hi
  exact ⟨w, List.mem_of_getElem? h1, h2⟩
theorem parts_pos (l : List Str) : 0 < (partsB l).length := by
  show 0 < (l.foldl partsF [[]]).length
  rw [parts_len]
  show 0 < 1 * 2 ^ l.length
  rw [Nat.one_mul]
  exact Nat.two_pow_pos _
theorem parts_le (l : List Str) : (partsB l).length = 2 ^ l.length := by
  show (l.foldl partsF [[]]).length = _
  rw [parts_len]
  show 1 * 2 ^ l.length = _
  rw [Nat.one_mul]
theorem others_sub (ns : List Str) (z : Str) : (othersB ns z).Sublist ns := List.filter_sublist
/-- drawn wants: what some names have, each a part of all names -/
def WsAt (H : Hp) (d : Addr) (ns ks : List Str) : Prop := ∃ kvs : List (Key × V), H d = some (.dK kvs) ∧ kvs.length ≤ ks.length ∧ ∀ z ∈ ks, ∃ (r : Addr) (b : List Str), valV kvs (.inr z) = some (.ref r) ∧ H r = some (.tup (b.map V.str)) ∧ b.Sublist ns
def spAnswers (K : PySem.W.Frag) : Sp := fun vs H Q _ => ∃ (p n : Addr) (ns : List Str) (m : Int), vs = [.ref p, .ref n, .int m] ∧ PoolAt H p ∧ H n = some (.tup (ns.map V.str)) ∧ NmT ns ∧ 0 ≤ m ∧ m ≤ 10 ∧
  ∀ (f : Addr) (xs : List V) (as : List An) (H' : Hp), H f = none → Aft p H H' → H' f = some (.lst xs) → Paired (AnT H') xs as → (∀ a ∈ as, AnR ns a) → as.length ≤ 10 → Q (.ref f) H'
section
variable {P : Program} {w : World} {K : PySem.W.Frag} {mg : Str → Option Value} {base : Heap}
theorem cal_law_answers (Z : All K mg) : Cal P w K mg base CX0 3 "_law_answers" ["_law_pool_here", "_law_names", "_law_many"] (spAnswers K) := by
  obtain ⟨fd, F⟩ := Z.f_law_answers
  have C_law_take : Cal P w K mg base CX0 1 "_law_take" ["_law_pool_here", "_law_bound"] spTake := cal_law_take Z
  have C_law_one : Cal P w K mg base CX0 2 "_law_one" ["_law_pool_here", "_law_things"] (spLone K) := cal_law_one Z
  have C_law_parts : Cal P w K mg base CX0 1 "_law_parts" ["_law_some"] (spParts K) := cal_law_parts Z
  refine .of ⟨fd, F, ok0 F sc_law_answers (fun vs H Q E h => ?_) (fun cdv A outer s H vs Q E hr h => ?_)⟩ Z.g_law_answers (fun _ _ _ _ _ _ us hl => match us, hl with | [_, _, _], _ => rfl)
  · obtain ⟨p, n, ns, m, rfl, _⟩ := h
    rfl
  · obtain ⟨p, n, ns, m, rfl, hp, hn, nt, m0, m10, k⟩ := h
    obtain ⟨nm, l4⟩ := nt.nm
    refine ⟨_, (pss_cons (ps_set (i := 3) sc_law_answers.nd rfl (Or.inl rfl) pe_dnewK)
      (pss_cons (ps_for PassesOwn.never rfl (pi_seq (pv 1)) (pg_name (i := 4) sc_law_answers.nd rfl (Or.inr rfl)) (pss_one (ps_asg (pe_cal C_law_one (hr.mono (by decide)) (by rfl) pass0 (pa_cons (pv 0) (pa_cons (pe_cal C_law_parts (hr.mono (by decide)) (by rfl) pass0 (pa_cons (pe_lc (own := [("_law_other", 10)]) (by rfl) sc_law_answers.nd (pi_seq (pv 1)) (blkOk_by (own := [("_law_other", 10)]) (N := ["_law_pool_here", "_law_names", "_law_many", "_law_wants", "_law_name", "_law_found", "_law_turn", "_law_skill", "_law_build", "_law_lets", "_law_other"]) (sc := defScope s_law_answers) (by decide +kernel)) (fun _ _ _ _ _ => (pg_name (i := 10) sc_law_answers.nd rfl (Or.inl rfl))) (fun _ _ _ _ _ => (pts_one (pt_cmpR op_ne (pv 10) (pv 4) (nomark _)))) (fun _ _ _ _ _ => (pv 10))) pa_nil)) pa_nil))) (pg_sub (pv 3) (pv 4) (L2.set_dict (hu_of hr))))))
      (pss_cons (ps_set (i := 5) sc_law_answers.nd rfl (Or.inl rfl) (pe_lst pa_nil))
      (pss_cons (ps_for PassesOwn.never rfl (pi_range1 (by rfl) Z.b_range (pa_cons (pv 2) pa_nil)) (pg_name (i := 6) sc_law_answers.nd rfl (Or.inl rfl)) (pss_cons (ps_set (i := 7) sc_law_answers.nd rfl (Or.inr rfl) (pe_cal C_law_one (hr.mono (by decide)) (by rfl) pass0 (pa_cons (pv 0) (pa_cons (pv 1) pa_nil))))
      (pss_cons (ps_set (i := 8) sc_law_answers.nd rfl (Or.inr rfl) (pe_cal C_law_one (hr.mono (by decide)) (by rfl) pass0 (pa_cons (pv 0) (pa_cons (pe_cal C_law_parts (hr.mono (by decide)) (by rfl) pass0 (pa_cons (pe_lc (own := [("_law_other", 10)]) (by rfl) sc_law_answers.nd (pi_seq (pv 1)) (blkOk_by (own := [("_law_other", 10)]) (N := ["_law_pool_here", "_law_names", "_law_many", "_law_wants", "_law_name", "_law_found", "_law_turn", "_law_skill", "_law_build", "_law_lets", "_law_other"]) (sc := defScope s_law_answers) (by decide +kernel)) (fun _ _ _ _ _ => (pg_name (i := 10) sc_law_answers.nd rfl (Or.inl rfl))) (fun _ _ _ _ _ => (pts_one (pt_cmpR op_ne (pv 10) (pv 7) (nomark _)))) (fun _ _ _ _ _ => (pv 10))) pa_nil)) pa_nil))))
      (pss_cons (ps_set (i := 9) sc_law_answers.nd rfl (Or.inl rfl) (pe_cmpR (op_eqE hr.units) (pe_lc (own := [("_law_name", 4)]) (by rfl) sc_law_answers.nd (pi_seq (pe_dget (hu_of hr) (pv 3) (pv 7) (fun _ _ => rfl))) (blkOk_by (own := [("_law_name", 4)]) (N := ["_law_pool_here", "_law_names", "_law_many", "_law_wants", "_law_name", "_law_found", "_law_turn", "_law_skill", "_law_build", "_law_lets", "_law_other"]) (sc := defScope s_law_answers) (by decide +kernel)) (fun _ _ _ _ _ => (pg_name (i := 4) sc_law_answers.nd rfl (Or.inl rfl))) (fun _ _ _ _ _ => (pts_one (pt_cmpR (show OpR _ (compareOp .NotIn) (rIn K true) from op_notIn_seq) (pv 4) (pv 8) rfl))) (fun _ _ _ _ _ => (pv 4))) (pe_lst pa_nil) (nomark _)))
      (pss_one (ps_expr (pe_bm PySem.F.plainAttrs_list PySem.F.slot_list_append PySem.F.type_list_append mt_append (pv 5) (pa_cons (pe_tup (pa_cons (pv 8) (pa_cons (pv 7) (pa_cons (pe_ifExp (pt_cmpR op_gt (pe_cal C_law_take (hr.mono (by decide)) (by rfl) pass0 (pa_cons (pv 0) (pa_cons pe_int pa_nil))) pe_int (nomark _)) (pv 9) (pe_not (pv 9))) pa_nil)))) pa_nil))))))))
      (pss_one (ps_ret (pv 5))))))), ?_⟩
    have np : n ≠ p := by
      obtain ⟨x, y, hpp, _⟩ := hp
      exact ne_of hn hpp (by intro z; cases z)
    -- the list of the others of a name, as a list and its parts, one of them
    refine fun wd nwd => ?_
    have wp : wd ≠ p := hp.ne nwd
    refine ⟨_, rfl, n, rfl, .inr ⟨⟨_, SqT.of (Same.new nwd _ _ hn)⟩, ?_⟩⟩
    refine for_tup (K := K) (a := n) (xs := ns.map V.str) (fun i σ H2 => ∃ s4, σ = [some (.ref p), some (.ref n), some (.int m), some (.ref wd), s4, none, none, none, none, none, none] ∧ Aft p H H2 ∧ WsAt H2 wd ns (ns.take i))
      ⟨none, rfl, (Aft.refl hp).new nwd, [], upd_same, Nat.zero_le _, fun z hz => (nomatch hz)⟩ (fun i σ H2 _ ⟨_, _, a, _⟩ => SqT.of (a.keep _ _ np hn)) ?_ ?_
    · rintro i y σ H2 hi ⟨s4, rfl, a2, kvs, hwd, lk, hv⟩
      obtain ⟨z, rfl, hz⟩ := strs_get hi
      have hn2 := a2.keep _ _ np hn
      refine ⟨_, rfl, _, rfl, n, rfl, lc_seq (.inr (SqT.of hn2)) (fun j => ((ns.take j).filter fun x => !decide (x = z)).map V.str) rfl (fun D nD j y Hy hj pp => ?_) fun D H3 nD s3 at3 => ?_⟩
      · obtain ⟨x, rfl, hx⟩ := strs_get hj
        refine ⟨rfl, _, rfl, _, rfl, rfl, _, rfl, ?_⟩
        by_cases e : x = z
        · exact ifF (by rw [decide_eq_true (by rw [e])]; rfl) (pp.skip (filt_no V.str _ hx (by rw [decide_eq_true e]; rfl)))
        · refine ifT (by rw [decide_eq_false (by intro q; injection q with q; exact e q)]; rfl) ⟨_, rfl, pp.put nD (filt_one V.str _ hx (by rw [decide_eq_false e]; rfl)) (line_of (m := 60) ?_ (by decide))⟩
          rw [List.length_map]
          exact Nat.le_trans (List.length_filter_le _ _) (Nat.le_trans (List.length_take_le' _ _) (by omega))
      · rw [List.length_map, List.take_length] at at3
        have at3 : H3 D = some (.lst ((othersB ns z).map V.str)) := at3
        have lo : (othersB ns z).length ≤ 4 := by
          have : (othersB ns z).length ≤ ns.length := List.length_filter_le _ _
          omega
        refine ⟨D, othersB ns z, rfl, SqL.of at3, by omega, fun f xs H4 ff s4 hf pf => ?_⟩
        have a4 : Aft p H H4 := (a2.same s3).same s4
        have fp : f ≠ p := (a2.same s3).pool.ne ff
        have lx : xs.length = 2 ^ (othersB ns z).length := by
          rw [Paired.length pf, parts_le]
        have b16 : 2 ^ (othersB ns z).length ≤ 16 := Nat.pow_le_pow_right (n := 2) (by decide) lo
        have pos := Nat.two_pow_pos (othersB ns z).length
        refine ⟨p, f, xs, rfl, a4.pool, .inl (SqL.of hf), fp, by omega, by omega, fun x H5 hx a5 => ?_⟩
        obtain ⟨b, hb, r, rfl, hr'⟩ := paired_mem pf hx
        have sb := mem_parts.mp hb
        have tk5 := a5.tk a4.pool
        have hwd5 : H5 wd = some (.dK kvs) := a5.keep _ _ wp (s4 _ _ (s3 _ _ hwd))
        have lk4 : kvs.length ≤ 4 := by
          have : (ns.take i).length ≤ ns.length := List.length_take_le' _ _
          omega
        refine ⟨_, rfl, _, rfl, wd, _, rfl, DPut.k (k := .inr z) hwd5 (line_of (m := 4) lk4 (by decide)), ?_⟩
        have tk6 : Tk H5 (upd H5 wd (.dK (putK kvs (.inr z) (.ref r)))) := Tk.dct hwd5
        refine ⟨_, rfl, (a4.trans a5).put nwd wp, _, upd_same, ?_, fun y hy => ?_⟩
        · have := length_putK kvs (.inr z : Key) (.ref r)
          rw [take_one hz, List.length_append]
          show _ ≤ _ + 1
          omega
        · rw [valV_put]
          by_cases e : y = z
          · subst e
            exact ⟨r, b, by rw [if_pos rfl], tk6 _ _ (tk5 _ _ hr'), sb.trans (others_sub _ _)⟩
          · rw [if_neg (by intro q; injection q with q; exact e q)]
            rw [take_one hz] at hy
            rcases List.mem_append.mp hy with hy | hy
            · obtain ⟨r2, b2, h1, h2, h3⟩ := hv y hy
              exact ⟨r2, b2, h1, tk6 _ _ (tk5 _ _ (s4 _ _ (s3 _ _ h2))), h3⟩
            · exact absurd (List.mem_singleton.mp hy) e
    · rintro σ H2 ⟨s4, rfl, a2, ws⟩
      rw [List.length_map, List.take_length] at ws
      refine ⟨(by show 0 ≤ sizeLine; decide), fun fo nfo => ?_⟩
      have ffo : H fo = none := a2.free' nfo
      have fop : fo ≠ p := a2.pool.ne nfo
      have fow : fo ≠ wd := fun e => by
        obtain ⟨kvs, hwd, _⟩ := ws
        rw [e, hwd] at nfo
        cases nfo
      refine ⟨_, rfl, m, rfl, by omega, by omega, ?_⟩
      refine for_range (lo := 0) (n := m.toNat) (fun i σ H2 => ∃ s4 s6 s7 s8 s9 xs as, σ = [some (.ref p), some (.ref n), some (.int m), some (.ref wd), s4, some (.ref fo), s6, s7, s8, s9, none] ∧ Aft p H H2 ∧ WsAt H2 wd ns ns ∧ H2 fo = some (.lst xs) ∧ Paired (AnT H2) xs as ∧ (∀ a ∈ as, AnR ns a) ∧ as.length = i)
        ⟨s4, none, none, none, none, [], [], rfl, a2.new nfo, ?_, upd_same, .nil, fun a ha => (nomatch ha), rfl⟩ ?_ ?_
      · obtain ⟨kvs, h1, h2, h3⟩ := ws
        exact ⟨kvs, Same.new nfo _ _ h1, h2, fun z hz => let ⟨r, b, q1, q2, q3⟩ := h3 z hz; ⟨r, b, q1, Same.new nfo _ _ q2, q3⟩⟩
      · rintro i σ H2 hi ⟨s4, s6, s7, s8, s9, xs, as, rfl, a2, ws, hfo, pa, okA, lA⟩
        obtain ⟨kvs, hwd, lk, hv⟩ := ws
        have hn2 := a2.keep _ _ np hn
        have nl : (ns.map V.str).length = ns.length := List.length_map _
        have n1 := nm.ge
        -- the skill
        refine ⟨_, rfl, _, rfl, p, n, _, rfl, a2.pool, .inr (SqT.of hn2), np, by omega, by omega, fun x H3 hx a3 => ?_⟩
        obtain ⟨z, hz, rfl⟩ := List.mem_map.mp hx
        have hn3 := a3.keep _ _ np hn2
        -- the build
        refine ⟨_, rfl, _, rfl, n, rfl, lc_seq (.inr (SqT.of hn3)) (fun j => ((ns.take j).filter fun x => !decide (x = z)).map V.str) rfl (fun D nD j y Hy hj pp => ?_) fun D H4 nD s4' at4 => ?_⟩
        · obtain ⟨x, rfl, hx⟩ := strs_get hj
          refine ⟨rfl, _, rfl, _, rfl, rfl, _, rfl, ?_⟩
          by_cases e : x = z
          · exact ifF (by rw [decide_eq_true (by rw [e])]; rfl) (pp.skip (filt_no V.str _ hx (by rw [decide_eq_true e]; rfl)))
          · refine ifT (by rw [decide_eq_false (by intro q; injection q with q; exact e q)]; rfl) ⟨_, rfl, pp.put nD (filt_one V.str _ hx (by rw [decide_eq_false e]; rfl)) (line_of (m := 60) ?_ (by decide))⟩
            rw [List.length_map]
            exact Nat.le_trans (List.length_filter_le _ _) (Nat.le_trans (List.length_take_le' _ _) (by omega))
        · rw [List.length_map, List.take_length] at at4
          have at4 : H4 D = some (.lst ((othersB ns z).map V.str)) := at4
          have lo : (othersB ns z).length ≤ 4 := by
            have : (othersB ns z).length ≤ ns.length := List.length_filter_le _ _
            omega
          refine ⟨D, othersB ns z, rfl, SqL.of at4, by omega, fun f ys H5 ff s5 hf pf => ?_⟩
          have a5 : Aft p H H5 := ((a2.trans a3).same s4').same s5
          have a35 : Aft p H2 H5 := (a3.same s4').same s5
          have fp : f ≠ p := ((a2.trans a3).same s4').pool.ne ff
          have lx : ys.length = 2 ^ (othersB ns z).length := by
            rw [Paired.length pf, parts_le]
          have b16 : 2 ^ (othersB ns z).length ≤ 16 := Nat.pow_le_pow_right (n := 2) (by decide) lo
          have pos := Nat.two_pow_pos (othersB ns z).length
          refine ⟨p, f, ys, rfl, a5.pool, .inl (SqL.of hf), fp, by omega, by omega, fun x H6 hx a6 => ?_⟩
          obtain ⟨bu, hbu, rb, rfl, hrb⟩ := paired_mem pf hx
          have sbu := mem_parts.mp hbu
          have hrb6 := a6.tk a5.pool _ _ hrb
          have a26 : Aft p H2 H6 := a35.trans a6
          have hwd6 := a26.keep _ _ wp hwd
          obtain ⟨rw_, bw, v1, v2, v3⟩ := hv z hz
          have v26 := a26.tk a2.pool _ _ v2
          have lbw : bw.length ≤ 4 := Nat.le_trans v3.length_le l4
          have lbu : bu.length ≤ 4 := Nat.le_trans sbu.length_le lo
          -- whether it is let
          refine ⟨_, rfl, _, rfl, wd, .ref rw_, rfl, ?_, rw_, rfl, lc_seq (.inr (SqT.of v26)) (fun j => ((bw.take j).filter fun y => !decide (y ∈ bu)).map V.str) rfl (fun D2 nD2 j y Hy hj pp => ?_) fun D2 H7 nD2 s7' at7 => ?_⟩
          · rw [← v1]
            exact DGet.k (k := .inr z) hwd6
          · obtain ⟨y, rfl, hy⟩ := strs_get hj
            refine ⟨rfl, _, rfl, _, rfl, rb, _, rfl, .inr (SqT.of (pp.same _ _ hrb6)), rfl, flat_strsV _, _, rfl, ?_⟩
            show if (!inV (.str y) (bu.map V.str)) = true then _ else _
            rw [inV_strs]
            refine ifB (fun e => ?_) (fun e => ?_)
            · refine ⟨_, rfl, pp.put nD2 (filt_one V.str _ hy e) (line_of (m := 60) ?_ (by decide))⟩
              rw [List.length_map]
              exact Nat.le_trans (List.length_filter_le _ _) (Nat.le_trans (List.length_take_le' _ _) (by omega))
            · exact pp.skip (filt_no V.str _ hy e)
          · rw [List.length_map, List.take_length] at at7
            refine ⟨(by show 0 ≤ sizeLine; decide), fun e0 ne0 => ⟨D2, _, e0, rfl, rfl, SqL.of (Same.new ne0 _ _ at7), SqL.of upd_same, fun x hx => ?_, ?_⟩⟩
            · obtain ⟨y, hy, rfl⟩ := List.mem_map.mp hx
              exact ⟨.str y, .str y, sm_str (nm.oks y (v3.subset (List.mem_filter.mp hy).1))⟩
            · obtain ⟨lets, el⟩ : ∃ lets, lets = ((bw.filter fun y => !decide (y ∈ bu)).map V.str).isEmpty := ⟨_, rfl⟩
              rw [← el]
              have a28 : Aft p H2 (upd H7 e0 (.lst [])) := (a26.same s7').new ne0
              have s68 : Same H6 (upd H7 e0 (.lst [])) := s7'.trans (Same.new ne0)
              obtain ⟨H8, e8⟩ : ∃ H8, H8 = upd H7 e0 (.lst []) := ⟨_, rfl⟩
              rw [← e8] at a28 s68 ⊢
              have hfo8 := a28.keep _ _ fop hfo
              have hrb8 := s68 _ _ hrb6
              refine ⟨_, rfl, .inl ⟨rfl, _, SqL.of hfo8⟩, _, rfl, _, rfl, ?_⟩
              refine by_ (fun v H' => ∃ l2 : Bool, v = .bl l2 ∧ Aft p H8 H') (fun Q kQ => ?_) ?_
              · refine ⟨_, rfl, p, _, rfl, a28.pool, by decide, by decide, fun r H9 r0 r1 a9 => ⟨_, _, rfl, rfl, _, rfl, ifB (fun _ => ⟨_, rfl, kQ _ _ ⟨_, rfl, a9⟩⟩) (fun _ => ⟨_, rfl, _, rfl, kQ _ _ ⟨_, rfl, a9⟩⟩)⟩⟩
              · rintro v H9 ⟨l2, rfl, a9⟩
                have a29 := a28.trans a9
                have hfo9 := a9.keep _ _ fop hfo8
                have hrb9 := a9.tk a28.pool _ _ hrb8
                have lxs : xs.length ≤ 10 := by
                  rw [Paired.length pa]
                  omega
                refine ⟨(by show 3 ≤ sizeLine; decide), fun tp ntp => ⟨fo, xs, _, rfl, rfl, Same.new ntp _ _ hfo9, line_of (m := 10) lxs (by decide), ?_⟩⟩
                have tpf : tp ≠ fo := (ne_of_none hfo9 ntp).symm
                have tk2 : Tk H2 (upd (upd H9 tp (.tup [.ref rb, .str z, .bl l2])) fo (.lst (xs ++ [.ref tp]))) := ((a29.tk a2.pool).trans (Tk.new ntp)).trans (Tk.lst (xs := xs) (Same.new ntp _ _ hfo9))
                have tk9 : Tk H9 (upd (upd H9 tp (.tup [.ref rb, .str z, .bl l2])) fo (.lst (xs ++ [.ref tp]))) := (Tk.new ntp).trans (Tk.lst (xs := xs) (Same.new ntp _ _ hfo9))
                have hwd9 := a29.keep _ _ wp hwd
                refine ⟨_, _, _, _, _, xs ++ [.ref tp], as ++ [⟨bu, z, l2⟩], rfl, ((a2.trans a29).new ntp).put ffo fop, ⟨kvs, ?_, lk, fun y hy => ?_⟩, upd_same, ?_, fun a ha => ?_, ?_⟩
                · rw [upd_ne fow.symm]
                  exact Same.new ntp _ _ hwd9
                · obtain ⟨r, b, q1, q2, q3⟩ := hv y hy
                  exact ⟨r, b, q1, tk2 _ _ q2, q3⟩
                · refine paired_snoc ⟨tp, rb, rfl, ?_, tk9 _ _ hrb9⟩ (paired_mono (fun x w q => ant_mono _ _ _ _ tk2 q) pa)
                  rw [upd_ne tpf]
                  exact upd_same
                · rcases List.mem_append.mp ha with ha | ha
                  · exact okA a ha
                  · rw [List.mem_singleton.mp ha]
                    exact ⟨hz, fun q => (mem_others.mp (sbu.subset q)).2 rfl, sbu.trans (others_sub _ _)⟩
                · rw [List.length_append, lA]
                  rfl
      · rintro σ H2 ⟨s4, s6, s7, s8, s9, xs, as, rfl, a2, ws, hfo, pa, okA, lA⟩
        exact ⟨_, rfl, k fo xs as H2 ffo a2 hfo pa okA (by omega)⟩
end
end Rt
end
section
set_option Elab.async false
set_option linter.all false
set_option maxRecDepth 100000
set_option maxHeartbeats 8000000
/-! the odd names and the odd answers of the law -/
namespace Rt
open PySem PySem.Spec PyProof.Rows L2
open LamX (ExtN)
mutual
theorem Dp.xn {K : PySem.W.Frag} {H H' : Hp} (e : ExtN H H') : ∀ {x : V} {d : PyData}, Dp K H x d → Dp K H' x d
  | _, _, .non => .non
  | _, _, .bl b => .bl b
  | _, _, .int i => .int i
  | _, _, .str x => .str x
  | _, _, .lst h1 h2 => .lst (xn_sqL e h1) (DpAll.xn e h2)
  | _, _, .tup h1 h2 => .tup (xn_sqT e h1) (DpAll.xn e h2)
theorem DpAll.xn {K : PySem.W.Frag} {H H' : Hp} (e : ExtN H H') : ∀ {xs : List V} {ds : List PyData}, DpAll K H xs ds → DpAll K H' xs ds
  | _, _, .nil => .nil
  | _, _, .cons h t => .cons (Dp.xn e h) (DpAll.xn e t)
end
theorem Rp.xn {K : PySem.W.Frag} {H H' : Hp} {x : V} {t : Str} (h : Rp K H x t) (e : ExtN H H') : Rp K H' x t := by
  rcases h with ⟨d, dp, r⟩ | ⟨a, ea, ⟨h, r⟩ | ⟨h, r⟩⟩
  · exact .inl ⟨d, Dp.xn e dp, r⟩
  · exact .inr ⟨a, ea, .inl ⟨xn_dK e h, r⟩⟩
  · exact .inr ⟨a, ea, .inr ⟨xn_dK e h, r⟩⟩
def toD : V → PyData
  | .str z => .str z
  | .int i => .int i
  | .bl b => .bool b
  | _ => .none
def plainV : V → Bool
  | .str z => decide (z.length ≤ 1000)
  | .int _ => true
  | .bl _ => true
  | .non => true
  | _ => false
theorem plain_ts {K : PySem.W.Frag} {H : Hp} {x : V} (h : plainV x = true) : ∃ T, Ts K H x T := by
  cases x with
  | str z => exact ⟨_, .str z⟩
  | int i => exact ⟨_, .int i⟩
  | bl b => exact ⟨_, .bl b⟩
  | non => exact ⟨_, .non⟩
  | _ => cases h
theorem plain_dp {K : PySem.W.Frag} {H : Hp} {x : V} (h : plainV x = true) : Dp K H x (toD x) := by
  cases x with
  | str z => exact .str z
  | int i => exact .int i
  | bl b => exact .bl b
  | non => exact .non
  | _ => cases h
theorem plain_all {K : PySem.W.Frag} {H : Hp} : ∀ {xs : List V}, xs.all plainV = true → DpAll K H xs (xs.map toD)
  | [], _ => .nil
  | x :: xs, h => by
    rw [List.all_cons, Bool.and_eq_true] at h
    exact .cons (plain_dp h.1) (plain_all h.2)
theorem plain_no {x : V} (h : plainV x = true) : (∀ a, x ≠ .ref a) ∧ ∀ a, x ≠ .ty a := by
  cases x with
  | ref a => cases h
  | ty a => cases h
  | _ => exact ⟨fun a e => (nomatch e), fun a e => (nomatch e)⟩
def fits (d : PyData) : Bool := (d.showable && !d.hasDict) && (decide (d.depth ≤ 60) && (decide ((rT d).length ≤ 1000) && (PyData.strOk (rT d) && (match d with
  | .int i => decide (i.natAbs.log2 < 1920)
  | _ => true))))
theorem fits_ok {d : PyData} (h : fits d = true) : RepOk d ∧ PyData.strOk (rT d) = true := by
  unfold fits at h
  obtain ⟨h1, h2⟩ := He.ba h
  obtain ⟨h3, h4⟩ := He.ba h1
  obtain ⟨h5, h6⟩ := He.ba h2
  obtain ⟨h7, h8⟩ := He.ba h6
  obtain ⟨h9, h10⟩ := He.ba h8
  have l := of_decide_eq_true h7
  refine ⟨⟨h3, by simpa using h4, of_decide_eq_true h5, by rw [sizeLine_eq]; omega, fun i e => ?_⟩, h9⟩
  subst e
  exact of_decide_eq_true h10
/-- what can be told -/
def Tl (K : PySem.W.Frag) (H : Hp) (x : V) : Prop := ∃ t, Rp K H x t ∧ PyData.strOk t = true
theorem Tl.of {K : PySem.W.Frag} {H : Hp} {x : V} {d : PyData} (h : Dp K H x d) (f : fits d = true) : Tl K H x := ⟨rT d, .inl ⟨d, h, (fits_ok f).1, rfl⟩, (fits_ok f).2⟩
theorem Tl.xn {K : PySem.W.Frag} {H H' : Hp} {x : V} (h : Tl K H x) (e : ExtN H H') : Tl K H' x := let ⟨t, r, s⟩ := h; ⟨t, r.xn e, s⟩
def ItN (K : PySem.W.Frag) (H : Hp) (x : V) : Prop := NmBad K H x ∧ Tl K H x
def ItS (K : PySem.W.Frag) (H : Hp) (ns : List Str) (x : V) : Prop := SnBad K H ns x ∧ Tl K H x
def AllN (K : PySem.W.Frag) (H : Hp) (xs : List V) : Prop := ∀ x ∈ xs, ItN K H x
def AllS (K : PySem.W.Frag) (H : Hp) (ns : List Str) (xs : List V) : Prop := ∀ x ∈ xs, ItS K H ns x
theorem ItN.same {K : PySem.W.Frag} {H H' : Hp} {x : V} (h : ItN K H x) (e : Same H H') : ItN K H' x := ⟨h.1.xn (ExtN.of e), h.2.xn (ExtN.of e)⟩
theorem ItS.same {K : PySem.W.Frag} {H H' : Hp} {ns : List Str} {x : V} (h : ItS K H ns x) (e : Same H H') : ItS K H' ns x := ⟨h.1.xn (ExtN.of e), h.2.xn (ExtN.of e)⟩
theorem AllS.same {K : PySem.W.Frag} {H H' : Hp} {ns : List Str} {xs : List V} (h : AllS K H ns xs) (e : Same H H') : AllS K H' ns xs := fun x hx => (h x hx).same e
theorem AllN.same {K : PySem.W.Frag} {H H' : Hp} {xs : List V} (h : AllN K H xs) (e : Same H H') : AllN K H' xs := fun x hx => (h x hx).same e
theorem AllN.nil {K : PySem.W.Frag} {H : Hp} : AllN K H [] := fun _ h => nomatch h
theorem AllS.nil {K : PySem.W.Frag} {H : Hp} {ns : List Str} : AllS K H ns [] := fun _ h => nomatch h
theorem AllN.cons {K : PySem.W.Frag} {H : Hp} {x : V} {xs : List V} (h : ItN K H x) (t : AllN K H xs) : AllN K H (x :: xs) := fun y hy => (List.mem_cons.mp hy).elim (fun e => by rw [e]; exact h) (t y)
theorem AllS.cons {K : PySem.W.Frag} {H : Hp} {ns : List Str} {x : V} {xs : List V} (h : ItS K H ns x) (t : AllS K H ns xs) : AllS K H ns (x :: xs) := fun y hy => (List.mem_cons.mp hy).elim (fun e => by rw [e]; exact h) (t y)
theorem AllS.app {K : PySem.W.Frag} {H : Hp} {ns : List Str} {xs ys : List V} (h : AllS K H ns xs) (t : AllS K H ns ys) : AllS K H ns (xs ++ ys) := fun y hy => (List.mem_append.mp hy).elim (h y) (t y)
theorem Same.over {H G : Hp} {p : Addr} {o : HO} (s : Same H G) (n : H p = none) : Same H (upd G p o) := fun b u hb => by
  rw [upd_ne (ne_of_none hb n)]
  exact s b u hb
def seqO (t : Bool) (xs : List V) : HO := if t = true then .tup xs else .lst xs
def seqD (t : Bool) (xs : List PyData) : PyData := if t = true then .tuple xs else .list xs
theorem dp_seq {K : PySem.W.Frag} {H : Hp} {t : Bool} {l : Addr} {xs : List V} {ds : List PyData} (h : H l = some (seqO t xs)) (p : DpAll K H xs ds) : Dp K H (.ref l) (seqD t ds) := by
  cases t with
  | true => exact .tup (SqT.of h) p
  | false => exact .lst (SqL.of h) p
theorem lt_seq {K : PySem.W.Frag} {H : Hp} {t : Bool} {l : Addr} {xs : List V} (h : H l = some (seqO t xs)) : Lt K H l xs := by
  cases t with
  | true => exact .tup h
  | false => exact .lst h
def okL (t : Bool) (xs : List V) : Bool := xs.all plainV && (decide (xs.length ≤ 60) && (!okNm xs && fits (seqD t (xs.map toD))))
theorem short_of {xs : List V} (h : xs.all plainV = true) : ∀ z, V.str z ∈ xs → z.length ≤ 1000 := fun z hz => of_decide_eq_true (List.all_eq_true.mp h _ hz)
theorem itn_seq {K : PySem.W.Frag} {H : Hp} {t : Bool} {l : Addr} {xs : List V} (h : H l = some (seqO t xs)) (g : okL t xs = true) : ItN K H (.ref l) := by
  unfold okL at g
  obtain ⟨g1, g⟩ := He.ba g
  obtain ⟨g2, g⟩ := He.ba g
  obtain ⟨g3, g4⟩ := He.ba g
  exact ⟨.seq (lt_seq h) (fun y hy => plain_ts (List.all_eq_true.mp g1 y hy)) (short_of g1) (of_decide_eq_true g2) (by simpa using g3), Tl.of (dp_seq h (plain_all g1)) g4⟩
/-! ### rows -/
def plD (t : Bool) (b : List V) (s x : V) : PyData := .list [.tuple [seqD t (b.map toD), toD s, toD x]]
def good3 (ns : List Str) (t : Bool) (b : List V) (s x : V) : Bool :=
  (b.all plainV && (plainV s && plainV x)) && (decide (b.length ≤ 60) && (!(ordO ns (if t = true then some b else none) && (isOne ns s && (!hasV (if t = true then some b else none) s && isBlV x))) && fits (plD t b s x)))
theorem its_row {K : PySem.W.Frag} {H : Hp} {ns : List Str} {t : Bool} {l r c : Addr} {b : List V} {s x : V} (hl : H l = some (.lst [.ref r])) (hr : H r = some (.tup [.ref c, s, x])) (hc : H c = some (seqO t b)) (g : good3 ns t b s x = true) : ItS K H ns (.ref l) := by
  unfold good3 at g
  obtain ⟨g1, g⟩ := He.ba g
  obtain ⟨g2, g⟩ := He.ba g
  obtain ⟨g3, g4⟩ := He.ba g
  obtain ⟨p1, p⟩ := He.ba g1
  obtain ⟨p2, p3⟩ := He.ba p
  obtain ⟨Ts1, ts1⟩ := plain_ts (K := K) (H := H) p2
  refine ⟨.rows (.lst hl) (.row (SqT.of hr) (o := if t = true then some b else none) ?_ ts1 (plain_no p3).1 (plain_no p3).2 (by rw [Bool.not_eq_true'] at g3; exact g3)), Tl.of (.lst (SqL.of hl) (.cons (.tup (SqT.of hr) (.cons (dp_seq hc (plain_all p1)) (.cons (plain_dp p2) (.cons (plain_dp p3) .nil)))) .nil)) g4⟩
  cases t with
  | true => exact ⟨c, rfl, SqT.of hc, fun y hy => plain_ts (List.all_eq_true.mp p1 y hy), of_decide_eq_true g2⟩
  | false => exact ⟨"list", .lst hc, by decide⟩
def gA (ns : List Str) : Bool := match ns with
  | n0 :: _ => (fits (.list [.tuple [.tuple [], .str n0]]) && fits (.list [.list [.tuple [], .str n0, .bool true]])) &&
      ((good3 ns true [] (.str n0) (.int 1) && (good3 ns true [] (.str n0) .non && good3 ns true [] (.str "nobody") (.bl true))) &&
       ((good3 ns true [] .non (.bl true) && good3 ns false [] (.str n0) (.bl true)) &&
        (good3 ns true [.str n0] (.str n0) (.bl true) && (good3 ns true [.str "nobody"] (.str n0) (.bl true) && good3 ns true [.non] (.str n0) (.bl true)))))
  | [] => true
def gB (ns : List Str) : Bool := match ns with
  | n0 :: n1 :: n2 :: _ => good3 ns true [.str n1, .str n0] (.str n2) (.bl true) && good3 ns true [.str n0, .str n0] (.str n2) (.bl false)
  | _ => true
theorem all_good : ([T1, T2, T3].all fun N => [1, 2, 3, 4].all fun m => gA (N.take m) && gB (N.take m)) = true := by decide +kernel
theorem NmT.good {ns : List Str} (h : NmT ns) : gA ns = true ∧ gB ns = true := by
  obtain ⟨N, m, hN, m1, m4, rfl⟩ := h
  have q := List.all_eq_true.mp all_good N (by rcases hN with rfl | rfl | rfl <;> simp)
  exact He.ba (List.all_eq_true.mp q m (by simp; omega))
def spBadN (K : PySem.W.Frag) : Sp := fun vs H Q _ => vs = [] ∧ ∀ l xs H', Same H H' → H' l = some (.lst xs) → AllN K H' xs → xs.length ≤ 60 → Q (.ref l) H'
def spBadS (K : PySem.W.Frag) : Sp := fun vs H Q _ => ∃ (n : Addr) (ns : List Str), vs = [.ref n] ∧ H n = some (.tup (ns.map V.str)) ∧ NmT ns ∧ ∀ l xs H', Same H H' → H' l = some (.lst xs) → AllS K H' ns xs → xs.length ≤ 60 → Q (.ref l) H'
section
variable {P : Program} {w : World} {K : PySem.W.Frag} {mg : Str → Option Value} {base : Heap}
theorem cal_law_bad_names (Z : All K mg) : Cal P w K mg base CX0 1 "_law_bad_names" [] (spBadN K) := by
  obtain ⟨fd, F⟩ := Z.f_law_bad_names
  refine .of ⟨fd, F, ok0 F sc_law_bad_names (fun vs H Q E h => ?_) (fun cdv A outer s H vs Q E hr h => ?_)⟩ Z.g_law_bad_names (fun _ _ _ _ _ _ us hl => match us, hl with | [], _ => rfl)
  · obtain ⟨rfl, _⟩ := h
    rfl
  · obtain ⟨rfl, k⟩ := h
    refine ⟨_, (pss_one (ps_ret (pe_lst (pa_cons pe_non (pa_cons pe_int (pa_cons pe_str (pa_cons (pe_lst pa_nil) (pa_cons (pe_tup pa_nil) (pa_cons (pe_lst (pa_cons pe_str (pa_cons pe_str pa_nil))) (pa_cons (pe_lst (pa_cons pe_str pa_nil)) (pa_cons (pe_lst (pa_cons pe_non pa_nil)) (pa_cons (pe_disp (pps_cons pe_str pe_int pps_nil) (by rfl) (by rfl) (fun z => by cases z) (by decide)) (pa_cons (pe_lst (pa_cons pe_str pa_nil)) (pa_cons (pe_lst (pa_cons pe_str pa_nil)) (pa_cons (pe_callTy (call_listS rfl) (by rfl) Z.b_list PyProof.Rows.boot_list (pa_cons pe_str pa_nil)) pa_nil))))))))))))))), ?_⟩
    refine ⟨(by show 0 ≤ sizeLine; decide), fun x1 f1 => ?_⟩
    have s1 := Same.new (o := .lst []) f1
    have a1 : (upd H x1 (.lst [])) x1 = some (.lst []) := upd_same
    generalize upd H x1 (.lst []) = H1 at s1 a1 ⊢
    have q := s1
    have ia1 : ItN K H1 (.ref x1) := itn_seq (t := false) a1 (by decide +kernel)
    refine ⟨(by show 0 ≤ sizeLine; decide), fun x2 f2 => ?_⟩
    have s2 := Same.new (o := .tup []) f2
    have a2 : (upd H1 x2 (.tup [])) x2 = some (.tup []) := upd_same
    generalize upd H1 x2 (.tup []) = H2 at s2 a2 ⊢
    have ia1 := ia1.same s2
    have q := q.trans s2
    have ia2 : ItN K H2 (.ref x2) := itn_seq (t := true) a2 (by decide +kernel)
    refine ⟨(by show 2 ≤ sizeLine; decide), fun x3 f3 => ?_⟩
    have s3 := Same.new (o := .lst [.str "a", .str "a"]) f3
    have a3 : (upd H2 x3 (.lst [.str "a", .str "a"])) x3 = some (.lst [.str "a", .str "a"]) := upd_same
    generalize upd H2 x3 (.lst [.str "a", .str "a"]) = H3 at s3 a3 ⊢
    have ia1 := ia1.same s3
    have ia2 := ia2.same s3
    have q := q.trans s3
    have ia3 : ItN K H3 (.ref x3) := itn_seq (t := false) a3 (by decide +kernel)
    refine ⟨(by show 1 ≤ sizeLine; decide), fun x4 f4 => ?_⟩
    have s4 := Same.new (o := .lst [.str "A"]) f4
    have a4 : (upd H3 x4 (.lst [.str "A"])) x4 = some (.lst [.str "A"]) := upd_same
    generalize upd H3 x4 (.lst [.str "A"]) = H4 at s4 a4 ⊢
    have ia1 := ia1.same s4
    have ia2 := ia2.same s4
    have ia3 := ia3.same s4
    have q := q.trans s4
    have ia4 : ItN K H4 (.ref x4) := itn_seq (t := false) a4 (by decide +kernel)
    refine ⟨(by show 1 ≤ sizeLine; decide), fun x5 f5 => ?_⟩
    have s5 := Same.new (o := .lst [.non]) f5
    have a5 : (upd H4 x5 (.lst [.non])) x5 = some (.lst [.non]) := upd_same
    generalize upd H4 x5 (.lst [.non]) = H5 at s5 a5 ⊢
    have ia1 := ia1.same s5
    have ia2 := ia2.same s5
    have ia3 := ia3.same s5
    have ia4 := ia4.same s5
    have q := q.trans s5
    have ia5 : ItN K H5 (.ref x5) := itn_seq (t := false) a5 (by decide +kernel)
    refine fun x6 f6 => ?_
    have s6 := Same.new (o := .dK []) f6
    have d0 : (upd H5 x6 (.dK [])) x6 = some (.dK []) := upd_same
    generalize upd H5 x6 (.dK []) = H6 at s6 d0 ⊢
    refine ⟨d0, [(.inr "a", .int 1)], rfl, by decide, ?_⟩
    have s7 : Same H5 (upd H6 x6 (.dK [(.inr "a", .int 1)])) := fun b o hb => by
      rw [upd_ne (ne_of_none hb f6)]
      exact s6 _ _ hb
    have d1 : (upd H6 x6 (.dK [(.inr "a", .int 1)])) x6 = some (.dK [(.inr "a", .int 1)]) := upd_same
    -- the dict
    have e7 : mergeK [] [((.inr "a" : Key), V.int 1)] = [(.inr "a", .int 1)] := rfl
    rw [e7]
    generalize upd H6 x6 (.dK [(.inr "a", .int 1)]) = H7 at s7 d1 ⊢
    have ia1 := ia1.same s7
    have ia2 := ia2.same s7
    have ia3 := ia3.same s7
    have ia4 := ia4.same s7
    have ia5 := ia5.same s7
    have q := q.trans s7
    have id1 : ItN K H7 (.ref x6) := ⟨.odd (.dct d1) (by decide) (by decide), "{'a': 1}", .inr ⟨_, rfl, .inr ⟨d1, rfl⟩⟩, by decide +kernel⟩
    refine ⟨(by show 1 ≤ sizeLine; decide), fun x8 f8 => ?_⟩
    have s8 := Same.new (o := .lst [.str "toolongna"]) f8
    have a6 : (upd H7 x8 (.lst [.str "toolongna"])) x8 = some (.lst [.str "toolongna"]) := upd_same
    generalize upd H7 x8 (.lst [.str "toolongna"]) = H8 at s8 a6 ⊢
    have ia1 := ia1.same s8
    have ia2 := ia2.same s8
    have ia3 := ia3.same s8
    have ia4 := ia4.same s8
    have ia5 := ia5.same s8
    have id1 := id1.same s8
    have q := q.trans s8
    have ia6 : ItN K H8 (.ref x8) := itn_seq (t := false) a6 (by decide +kernel)
    refine ⟨(by show 1 ≤ sizeLine; decide), fun x9 f9 => ?_⟩
    have s9 := Same.new (o := .lst [.str ""]) f9
    have a7 : (upd H8 x9 (.lst [.str ""])) x9 = some (.lst [.str ""]) := upd_same
    generalize upd H8 x9 (.lst [.str ""]) = H9 at s9 a7 ⊢
    have ia1 := ia1.same s9
    have ia2 := ia2.same s9
    have ia3 := ia3.same s9
    have ia4 := ia4.same s9
    have ia5 := ia5.same s9
    have id1 := id1.same s9
    have ia6 := ia6.same s9
    have q := q.trans s9
    have ia7 : ItN K H9 (.ref x9) := itn_seq (t := false) a7 (by decide +kernel)
    refine ⟨"abcdefghijklm", rfl, by decide, fun x10 f10 => ?_⟩
    have s10 := Same.new (o := .lst ((sgn "abcdefghijklm").map V.str)) f10
    have a8 : (upd H9 x10 (.lst ((sgn "abcdefghijklm").map V.str))) x10 = some (.lst ((sgn "abcdefghijklm").map V.str)) := upd_same
    generalize upd H9 x10 (.lst ((sgn "abcdefghijklm").map V.str)) = H10 at s10 a8 ⊢
    have ia1 := ia1.same s10
    have ia2 := ia2.same s10
    have ia3 := ia3.same s10
    have ia4 := ia4.same s10
    have ia5 := ia5.same s10
    have id1 := id1.same s10
    have ia6 := ia6.same s10
    have ia7 := ia7.same s10
    have q := q.trans s10
    have ia8 : ItN K H10 (.ref x10) := itn_seq (t := false) a8 (by decide +kernel)
    refine ⟨(by show 12 ≤ sizeLine; decide), fun x11 f11 => ?_⟩
    have s11 := Same.new (o := .lst [.non, .int 5, .str "a", .ref x1, .ref x2, .ref x3, .ref x4, .ref x5, .ref x6, .ref x8, .ref x9, .ref x10]) f11
    have z : (upd H10 x11 (.lst [.non, .int 5, .str "a", .ref x1, .ref x2, .ref x3, .ref x4, .ref x5, .ref x6, .ref x8, .ref x9, .ref x10])) x11 = some (.lst [.non, .int 5, .str "a", .ref x1, .ref x2, .ref x3, .ref x4, .ref x5, .ref x6, .ref x8, .ref x9, .ref x10]) := upd_same
    generalize upd H10 x11 (.lst [.non, .int 5, .str "a", .ref x1, .ref x2, .ref x3, .ref x4, .ref x5, .ref x6, .ref x8, .ref x9, .ref x10]) = H11 at s11 z ⊢
    have ia1 := ia1.same s11
    have ia2 := ia2.same s11
    have ia3 := ia3.same s11
    have ia4 := ia4.same s11
    have ia5 := ia5.same s11
    have id1 := id1.same s11
    have ia6 := ia6.same s11
    have ia7 := ia7.same s11
    have ia8 := ia8.same s11
    have q := q.trans s11
    exact k _ _ _ q z (.cons ⟨.odd .non (by decide) (by decide), Tl.of .non (by decide +kernel)⟩ (.cons ⟨.odd (.int 5) (by decide) (by decide), Tl.of (.int 5) (by decide +kernel)⟩ (.cons ⟨.odd (.str _) (by decide) (by decide), Tl.of (.str _) (by decide +kernel)⟩ (.cons (ia1) (.cons (ia2) (.cons (ia3) (.cons (ia4) (.cons (ia5) (.cons (id1) (.cons (ia6) (.cons (ia7) (.cons (ia8) (AllN.nil))))))))))))) (by simp)
theorem cal_law_bad_seen (Z : All K mg) : Cal P w K mg base CX0 1 "_law_bad_seen" ["_law_names"] (spBadS K) := by
  obtain ⟨fd, F⟩ := Z.f_law_bad_seen
  refine .of ⟨fd, F, ok0 F sc_law_bad_seen (fun vs H Q E h => ?_) (fun cdv A outer s H vs Q E hr h => ?_)⟩ Z.g_law_bad_seen (fun _ _ _ _ _ _ us hl => match us, hl with | [_], _ => rfl)
  · obtain ⟨n, ns, rfl, _⟩ := h
    rfl
  · obtain ⟨n, ns, rfl, hn, nt, k⟩ := h
    obtain ⟨gooda, goodb⟩ := nt.good
    obtain ⟨n0, ns1, rfl⟩ : ∃ n0 ns1, ns = n0 :: ns1 := by
      cases ns with
      | nil => exact absurd nt.nm.1.ge (by decide)
      | cons n0 ns1 => exact ⟨n0, ns1, rfl⟩
    obtain ⟨ga, gooda⟩ := He.ba (show (_ && _) = true from gooda)
    obtain ⟨ga1, ga2⟩ := He.ba ga
    obtain ⟨gb, gc⟩ := He.ba gooda
    obtain ⟨gr1, gb⟩ := He.ba gb
    obtain ⟨gr2, gr3⟩ := He.ba gb
    obtain ⟨gd, ge⟩ := He.ba gc
    obtain ⟨gr4, gr5⟩ := He.ba gd
    obtain ⟨gr6, gf⟩ := He.ba ge
    obtain ⟨gr7, gr8⟩ := He.ba gf
    have at0 : atI ((n0 :: ns1).map V.str) 0 = some (.str n0) := at_of (j := 0) rfl rfl
    have q := Same.refl H
    refine ⟨_, (pss_cons (ps_set (i := 1) sc_law_bad_seen.nd rfl (Or.inl rfl) (pe_lst (pa_cons pe_non (pa_cons pe_int (pa_cons pe_str (pa_cons pe_dnewK (pa_cons (pe_lst (pa_cons pe_non pa_nil)) (pa_cons (pe_lst (pa_cons (pe_tup (pa_cons (pe_tup pa_nil) pa_nil)) pa_nil)) (pa_cons (pe_lst (pa_cons (pe_tup (pa_cons (pe_tup pa_nil) (pa_cons (pe_ix ix_tup (pv 0) pe_int (fun _ _ => rfl)) pa_nil))) pa_nil)) (pa_cons (pe_lst (pa_cons (pe_lst (pa_cons (pe_tup pa_nil) (pa_cons (pe_ix ix_tup (pv 0) pe_int (fun _ _ => rfl)) (pa_cons pe_bl pa_nil)))) pa_nil)) (pa_cons (pe_lst (pa_cons (pe_tup (pa_cons (pe_tup pa_nil) (pa_cons (pe_ix ix_tup (pv 0) pe_int (fun _ _ => rfl)) (pa_cons pe_int pa_nil)))) pa_nil)) pa_nil)))))))))))
      (pss_cons (ps_set (i := 1) sc_law_bad_seen.nd rfl (Or.inl rfl) (pe_op op_cat (pv 1) (pe_lst (pa_cons (pe_lst (pa_cons (pe_tup (pa_cons (pe_tup pa_nil) (pa_cons (pe_ix ix_tup (pv 0) pe_int (fun _ _ => rfl)) (pa_cons pe_non pa_nil)))) pa_nil)) (pa_cons (pe_lst (pa_cons (pe_tup (pa_cons (pe_tup pa_nil) (pa_cons pe_str (pa_cons pe_bl pa_nil)))) pa_nil)) (pa_cons (pe_lst (pa_cons (pe_tup (pa_cons (pe_tup pa_nil) (pa_cons pe_non (pa_cons pe_bl pa_nil)))) pa_nil)) (pa_cons (pe_lst (pa_cons (pe_tup (pa_cons (pe_lst pa_nil) (pa_cons (pe_ix ix_tup (pv 0) pe_int (fun _ _ => rfl)) (pa_cons pe_bl pa_nil)))) pa_nil)) pa_nil)))))))
      (pss_cons (ps_set (i := 1) sc_law_bad_seen.nd rfl (Or.inl rfl) (pe_op op_cat (pv 1) (pe_lst (pa_cons (pe_lst (pa_cons (pe_tup (pa_cons (pe_tup (pa_cons (pe_ix ix_tup (pv 0) pe_int (fun _ _ => rfl)) pa_nil)) (pa_cons (pe_ix ix_tup (pv 0) pe_int (fun _ _ => rfl)) (pa_cons pe_bl pa_nil)))) pa_nil)) (pa_cons (pe_lst (pa_cons (pe_tup (pa_cons (pe_tup (pa_cons pe_str pa_nil)) (pa_cons (pe_ix ix_tup (pv 0) pe_int (fun _ _ => rfl)) (pa_cons pe_bl pa_nil)))) pa_nil)) (pa_cons (pe_lst (pa_cons (pe_tup (pa_cons (pe_tup (pa_cons pe_non pa_nil)) (pa_cons (pe_ix ix_tup (pv 0) pe_int (fun _ _ => rfl)) (pa_cons pe_bl pa_nil)))) pa_nil)) pa_nil))))))
      (pss_cons (ps_if (pt_cmpR op_gt (pe_callB call_len (by rfl) Z.b_len PySem.boot_len (pa_cons (pv 0) pa_nil)) pe_int (nomark _)) (pss_cons (ps_expr (pe_bm PySem.F.plainAttrs_list PySem.F.slot_list_append PySem.F.type_list_append mt_append (pv 1) (pa_cons (pe_lst (pa_cons (pe_tup (pa_cons (pe_tup (pa_cons (pe_ix ix_tup (pv 0) pe_int (fun _ _ => rfl)) (pa_cons (pe_ix ix_tup (pv 0) pe_int (fun _ _ => rfl)) pa_nil))) (pa_cons (pe_ix ix_tup (pv 0) pe_int (fun _ _ => rfl)) (pa_cons pe_bl pa_nil)))) pa_nil)) pa_nil)))
      (pss_one (ps_expr (pe_bm PySem.F.plainAttrs_list PySem.F.slot_list_append PySem.F.type_list_append mt_append (pv 1) (pa_cons (pe_lst (pa_cons (pe_tup (pa_cons (pe_tup (pa_cons (pe_ix ix_tup (pv 0) pe_int (fun _ _ => rfl)) (pa_cons (pe_ix ix_tup (pv 0) pe_int (fun _ _ => rfl)) pa_nil))) (pa_cons (pe_ix ix_tup (pv 0) pe_int (fun _ _ => rfl)) (pa_cons pe_bl pa_nil)))) pa_nil)) pa_nil))))) pss_nil)
      (pss_one (ps_ret (pv 1))))))), ?_⟩
    refine fun x1 f1 => ?_
    have s1 := Same.new (o := .dK []) f1
    have dd : (upd H x1 (.dK [])) x1 = some (.dK []) := upd_same
    generalize upd H x1 (.dK []) = H1 at s1 dd ⊢
    have hn := s1 _ _ hn
    have q := s1
    have i1 : ItS K H1 (n0 :: ns1) (.ref x1) := ⟨.odd (.dct dd) (by decide) (by decide), "{}", .inr ⟨_, rfl, .inl ⟨dd, rfl⟩⟩, by decide +kernel⟩
    refine ⟨(by show 1 ≤ sizeLine; decide), fun x2 f2 => ?_⟩
    have s2 := Same.new (o := .lst [.non]) f2
    have a2 : (upd H1 x2 (.lst [.non])) x2 = some (.lst [.non]) := upd_same
    generalize upd H1 x2 (.lst [.non]) = H2 at s2 a2 ⊢
    have hn := s2 _ _ hn
    have i1 := i1.same s2
    have q := q.trans s2
    have i3 : ItS K H2 (n0 :: ns1) (.ref x2) := ⟨.rows (.lst a2) (.odd .non (by decide)), Tl.of (.lst (SqL.of a2) (.cons .non .nil)) (by decide +kernel)⟩
    refine ⟨(by show 0 ≤ sizeLine; decide), fun x3 f3 => ?_⟩
    have s3 := Same.new (o := .tup []) f3
    have a4 : (upd H2 x3 (.tup [])) x3 = some (.tup []) := upd_same
    generalize upd H2 x3 (.tup []) = H3 at s3 a4 ⊢
    have hn := s3 _ _ hn
    have i1 := i1.same s3
    have i3 := i3.same s3
    have q := q.trans s3
    refine ⟨(by show 1 ≤ sizeLine; decide), fun x4 f4 => ?_⟩
    have s4 := Same.new (o := .tup [.ref x3]) f4
    have a5 : (upd H3 x4 (.tup [.ref x3])) x4 = some (.tup [.ref x3]) := upd_same
    generalize upd H3 x4 (.tup [.ref x3]) = H4 at s4 a5 ⊢
    have hn := s4 _ _ hn
    have i1 := i1.same s4
    have i3 := i3.same s4
    have a4 := s4 _ _ a4
    have q := q.trans s4
    refine ⟨(by show 1 ≤ sizeLine; decide), fun x5 f5 => ?_⟩
    have s5 := Same.new (o := .lst [.ref x4]) f5
    have a6 : (upd H4 x5 (.lst [.ref x4])) x5 = some (.lst [.ref x4]) := upd_same
    generalize upd H4 x5 (.lst [.ref x4]) = H5 at s5 a6 ⊢
    have hn := s5 _ _ hn
    have i1 := i1.same s5
    have i3 := i3.same s5
    have a4 := s5 _ _ a4
    have a5 := s5 _ _ a5
    have q := q.trans s5
    have i7 : ItS K H5 (n0 :: ns1) (.ref x5) := ⟨.rows (.lst a6) (.len (SqT.of a5) (by simp)), Tl.of (.lst (SqL.of a6) (.cons (.tup (SqT.of a5) (.cons (.tup (SqT.of a4) .nil) .nil)) .nil)) (by decide +kernel)⟩
    refine ⟨(by show 0 ≤ sizeLine; decide), fun x6 f6 => ?_⟩
    have s6 := Same.new (o := .tup []) f6
    have a8 : (upd H5 x6 (.tup [])) x6 = some (.tup []) := upd_same
    generalize upd H5 x6 (.tup []) = H6 at s6 a8 ⊢
    have hn := s6 _ _ hn
    have i1 := i1.same s6
    have i3 := i3.same s6
    have i7 := i7.same s6
    have q := q.trans s6
    refine ⟨_, rfl, n, _, 0, _, rfl, rfl, SqT.of hn, at0, (by show 2 ≤ sizeLine; decide), fun x7 f7 => ?_⟩
    have s7 := Same.new (o := .tup [.ref x6, .str n0]) f7
    have a9 : (upd H6 x7 (.tup [.ref x6, .str n0])) x7 = some (.tup [.ref x6, .str n0]) := upd_same
    generalize upd H6 x7 (.tup [.ref x6, .str n0]) = H7 at s7 a9 ⊢
    have hn := s7 _ _ hn
    have i1 := i1.same s7
    have i3 := i3.same s7
    have i7 := i7.same s7
    have a8 := s7 _ _ a8
    have q := q.trans s7
    refine ⟨(by show 1 ≤ sizeLine; decide), fun x8 f8 => ?_⟩
    have s8 := Same.new (o := .lst [.ref x7]) f8
    have a10 : (upd H7 x8 (.lst [.ref x7])) x8 = some (.lst [.ref x7]) := upd_same
    generalize upd H7 x8 (.lst [.ref x7]) = H8 at s8 a10 ⊢
    have hn := s8 _ _ hn
    have i1 := i1.same s8
    have i3 := i3.same s8
    have i7 := i7.same s8
    have a8 := s8 _ _ a8
    have a9 := s8 _ _ a9
    have q := q.trans s8
    have i11 : ItS K H8 (n0 :: ns1) (.ref x8) := ⟨.rows (.lst a10) (.len (SqT.of a9) (by simp)), Tl.of (.lst (SqL.of a10) (.cons (.tup (SqT.of a9) (.cons (.tup (SqT.of a8) .nil) (.cons (.str _) .nil))) .nil)) ga1⟩
    refine ⟨(by show 0 ≤ sizeLine; decide), fun x9 f9 => ?_⟩
    have s9 := Same.new (o := .tup []) f9
    have a12 : (upd H8 x9 (.tup [])) x9 = some (.tup []) := upd_same
    generalize upd H8 x9 (.tup []) = H9 at s9 a12 ⊢
    have hn := s9 _ _ hn
    have i1 := i1.same s9
    have i3 := i3.same s9
    have i7 := i7.same s9
    have i11 := i11.same s9
    have q := q.trans s9
    refine ⟨_, rfl, n, _, 0, _, rfl, rfl, SqT.of hn, at0, (by show 3 ≤ sizeLine; decide), fun x10 f10 => ?_⟩
    have s10 := Same.new (o := .lst [.ref x9, .str n0, .bl true]) f10
    have a13 : (upd H9 x10 (.lst [.ref x9, .str n0, .bl true])) x10 = some (.lst [.ref x9, .str n0, .bl true]) := upd_same
    generalize upd H9 x10 (.lst [.ref x9, .str n0, .bl true]) = H10 at s10 a13 ⊢
    have hn := s10 _ _ hn
    have i1 := i1.same s10
    have i3 := i3.same s10
    have i7 := i7.same s10
    have i11 := i11.same s10
    have a12 := s10 _ _ a12
    have q := q.trans s10
    refine ⟨(by show 1 ≤ sizeLine; decide), fun x11 f11 => ?_⟩
    have s11 := Same.new (o := .lst [.ref x10]) f11
    have a14 : (upd H10 x11 (.lst [.ref x10])) x11 = some (.lst [.ref x10]) := upd_same
    generalize upd H10 x11 (.lst [.ref x10]) = H11 at s11 a14 ⊢
    have hn := s11 _ _ hn
    have i1 := i1.same s11
    have i3 := i3.same s11
    have i7 := i7.same s11
    have i11 := i11.same s11
    have a12 := s11 _ _ a12
    have a13 := s11 _ _ a13
    have q := q.trans s11
    have i15 : ItS K H11 (n0 :: ns1) (.ref x11) := ⟨.rows (.lst a14) (.odd (.lst a13) (by decide)), Tl.of (.lst (SqL.of a14) (.cons (.lst (SqL.of a13) (.cons (.tup (SqT.of a12) .nil) (.cons (.str _) (.cons (.bl _) .nil)))) .nil)) ga2⟩
    refine ⟨(by show 0 ≤ sizeLine; decide), fun x12 f12 => ?_⟩
    have s12 := Same.new (o := .tup []) f12
    have a16 : (upd H11 x12 (.tup [])) x12 = some (.tup []) := upd_same
    generalize upd H11 x12 (.tup []) = H12 at s12 a16 ⊢
    have hn := s12 _ _ hn
    have i1 := i1.same s12
    have i3 := i3.same s12
    have i7 := i7.same s12
    have i11 := i11.same s12
    have i15 := i15.same s12
    have q := q.trans s12
    refine ⟨_, rfl, n, _, 0, _, rfl, rfl, SqT.of hn, at0, (by show 3 ≤ sizeLine; decide), fun x13 f13 => ?_⟩
    have s13 := Same.new (o := .tup [.ref x12, .str n0, .int 1]) f13
    have a17 : (upd H12 x13 (.tup [.ref x12, .str n0, .int 1])) x13 = some (.tup [.ref x12, .str n0, .int 1]) := upd_same
    generalize upd H12 x13 (.tup [.ref x12, .str n0, .int 1]) = H13 at s13 a17 ⊢
    have hn := s13 _ _ hn
    have i1 := i1.same s13
    have i3 := i3.same s13
    have i7 := i7.same s13
    have i11 := i11.same s13
    have i15 := i15.same s13
    have a16 := s13 _ _ a16
    have q := q.trans s13
    refine ⟨(by show 1 ≤ sizeLine; decide), fun x14 f14 => ?_⟩
    have s14 := Same.new (o := .lst [.ref x13]) f14
    have a18 : (upd H13 x14 (.lst [.ref x13])) x14 = some (.lst [.ref x13]) := upd_same
    generalize upd H13 x14 (.lst [.ref x13]) = H14 at s14 a18 ⊢
    have hn := s14 _ _ hn
    have i1 := i1.same s14
    have i3 := i3.same s14
    have i7 := i7.same s14
    have i11 := i11.same s14
    have i15 := i15.same s14
    have a16 := s14 _ _ a16
    have a17 := s14 _ _ a17
    have q := q.trans s14
    have i19 : ItS K H14 (n0 :: ns1) (.ref x14) := its_row (t := true) a18 a17 a16 gr1
    refine ⟨(by show 9 ≤ sizeLine; decide), fun x15 f15 => ?_⟩
    have s15 := Same.new (o := .lst [.non, .int 5, .str "a", .ref x1, .ref x2, .ref x5, .ref x8, .ref x11, .ref x14]) f15
    have fo : (upd H14 x15 (.lst [.non, .int 5, .str "a", .ref x1, .ref x2, .ref x5, .ref x8, .ref x11, .ref x14])) x15 = some (.lst [.non, .int 5, .str "a", .ref x1, .ref x2, .ref x5, .ref x8, .ref x11, .ref x14]) := upd_same
    generalize upd H14 x15 (.lst [.non, .int 5, .str "a", .ref x1, .ref x2, .ref x5, .ref x8, .ref x11, .ref x14]) = H15 at s15 fo ⊢
    have hn := s15 _ _ hn
    have i1 := i1.same s15
    have i3 := i3.same s15
    have i7 := i7.same s15
    have i11 := i11.same s15
    have i15 := i15.same s15
    have i19 := i19.same s15
    have q := q.trans s15
    have A1 : AllS K H15 (n0 :: ns1) [.non, .int 5, .str "a", .ref x1, .ref x2, .ref x5, .ref x8, .ref x11, .ref x14] := .cons ⟨.odd .non (by decide) (by decide), Tl.of .non (by decide +kernel)⟩ (.cons ⟨.odd (.int 5) (by decide) (by decide), Tl.of (.int 5) (by decide +kernel)⟩ (.cons ⟨.odd (.str _) (by decide) (by decide), Tl.of (.str _) (by decide +kernel)⟩ (.cons i1 (.cons i3 (.cons i7 (.cons i11 (.cons i15 (.cons i19 (AllS.nil)))))))))
    refine ⟨_, rfl, (by show 0 ≤ sizeLine; decide), fun x16 f16 => ?_⟩
    have s16 := Same.new (o := .tup []) f16
    have a20 : (upd H15 x16 (.tup [])) x16 = some (.tup []) := upd_same
    have m16 := ne_of_none fo f16
    generalize upd H15 x16 (.tup []) = H16 at s16 a20 ⊢
    have hn := s16 _ _ hn
    have fo := s16 _ _ fo
    have A1 := A1.same s16
    have q := q.trans s16
    refine ⟨_, rfl, n, _, 0, _, rfl, rfl, SqT.of hn, at0, (by show 3 ≤ sizeLine; decide), fun x17 f17 => ?_⟩
    have s17 := Same.new (o := .tup [.ref x16, .str n0, .non]) f17
    have a21 : (upd H16 x17 (.tup [.ref x16, .str n0, .non])) x17 = some (.tup [.ref x16, .str n0, .non]) := upd_same
    have m17 := ne_of_none fo f17
    generalize upd H16 x17 (.tup [.ref x16, .str n0, .non]) = H17 at s17 a21 ⊢
    have hn := s17 _ _ hn
    have fo := s17 _ _ fo
    have A1 := A1.same s17
    have a20 := s17 _ _ a20
    have q := q.trans s17
    refine ⟨(by show 1 ≤ sizeLine; decide), fun x18 f18 => ?_⟩
    have s18 := Same.new (o := .lst [.ref x17]) f18
    have a22 : (upd H17 x18 (.lst [.ref x17])) x18 = some (.lst [.ref x17]) := upd_same
    have m18 := ne_of_none fo f18
    generalize upd H17 x18 (.lst [.ref x17]) = H18 at s18 a22 ⊢
    have hn := s18 _ _ hn
    have fo := s18 _ _ fo
    have A1 := A1.same s18
    have a20 := s18 _ _ a20
    have a21 := s18 _ _ a21
    have q := q.trans s18
    have i23 : ItS K H18 (n0 :: ns1) (.ref x18) := its_row (t := true) a22 a21 a20 gr2
    refine ⟨(by show 0 ≤ sizeLine; decide), fun x19 f19 => ?_⟩
    have s19 := Same.new (o := .tup []) f19
    have a24 : (upd H18 x19 (.tup [])) x19 = some (.tup []) := upd_same
    have m19 := ne_of_none fo f19
    generalize upd H18 x19 (.tup []) = H19 at s19 a24 ⊢
    have hn := s19 _ _ hn
    have fo := s19 _ _ fo
    have A1 := A1.same s19
    have i23 := i23.same s19
    have q := q.trans s19
    refine ⟨(by show 3 ≤ sizeLine; decide), fun x20 f20 => ?_⟩
    have s20 := Same.new (o := .tup [.ref x19, .str "nobody", .bl true]) f20
    have a25 : (upd H19 x20 (.tup [.ref x19, .str "nobody", .bl true])) x20 = some (.tup [.ref x19, .str "nobody", .bl true]) := upd_same
    have m20 := ne_of_none fo f20
    generalize upd H19 x20 (.tup [.ref x19, .str "nobody", .bl true]) = H20 at s20 a25 ⊢
    have hn := s20 _ _ hn
    have fo := s20 _ _ fo
    have A1 := A1.same s20
    have i23 := i23.same s20
    have a24 := s20 _ _ a24
    have q := q.trans s20
    refine ⟨(by show 1 ≤ sizeLine; decide), fun x21 f21 => ?_⟩
    have s21 := Same.new (o := .lst [.ref x20]) f21
    have a26 : (upd H20 x21 (.lst [.ref x20])) x21 = some (.lst [.ref x20]) := upd_same
    have m21 := ne_of_none fo f21
    generalize upd H20 x21 (.lst [.ref x20]) = H21 at s21 a26 ⊢
    have hn := s21 _ _ hn
    have fo := s21 _ _ fo
    have A1 := A1.same s21
    have i23 := i23.same s21
    have a24 := s21 _ _ a24
    have a25 := s21 _ _ a25
    have q := q.trans s21
    have i27 : ItS K H21 (n0 :: ns1) (.ref x21) := its_row (t := true) a26 a25 a24 gr3
    refine ⟨(by show 0 ≤ sizeLine; decide), fun x22 f22 => ?_⟩
    have s22 := Same.new (o := .tup []) f22
    have a28 : (upd H21 x22 (.tup [])) x22 = some (.tup []) := upd_same
    have m22 := ne_of_none fo f22
    generalize upd H21 x22 (.tup []) = H22 at s22 a28 ⊢
    have hn := s22 _ _ hn
    have fo := s22 _ _ fo
    have A1 := A1.same s22
    have i23 := i23.same s22
    have i27 := i27.same s22
    have q := q.trans s22
    refine ⟨(by show 3 ≤ sizeLine; decide), fun x23 f23 => ?_⟩
    have s23 := Same.new (o := .tup [.ref x22, .non, .bl true]) f23
    have a29 : (upd H22 x23 (.tup [.ref x22, .non, .bl true])) x23 = some (.tup [.ref x22, .non, .bl true]) := upd_same
    have m23 := ne_of_none fo f23
    generalize upd H22 x23 (.tup [.ref x22, .non, .bl true]) = H23 at s23 a29 ⊢
    have hn := s23 _ _ hn
    have fo := s23 _ _ fo
    have A1 := A1.same s23
    have i23 := i23.same s23
    have i27 := i27.same s23
    have a28 := s23 _ _ a28
    have q := q.trans s23
    refine ⟨(by show 1 ≤ sizeLine; decide), fun x24 f24 => ?_⟩
    have s24 := Same.new (o := .lst [.ref x23]) f24
    have a30 : (upd H23 x24 (.lst [.ref x23])) x24 = some (.lst [.ref x23]) := upd_same
    have m24 := ne_of_none fo f24
    generalize upd H23 x24 (.lst [.ref x23]) = H24 at s24 a30 ⊢
    have hn := s24 _ _ hn
    have fo := s24 _ _ fo
    have A1 := A1.same s24
    have i23 := i23.same s24
    have i27 := i27.same s24
    have a28 := s24 _ _ a28
    have a29 := s24 _ _ a29
    have q := q.trans s24
    have i31 : ItS K H24 (n0 :: ns1) (.ref x24) := its_row (t := true) a30 a29 a28 gr4
    refine ⟨(by show 0 ≤ sizeLine; decide), fun x25 f25 => ?_⟩
    have s25 := Same.new (o := .lst []) f25
    have a32 : (upd H24 x25 (.lst [])) x25 = some (.lst []) := upd_same
    have m25 := ne_of_none fo f25
    generalize upd H24 x25 (.lst []) = H25 at s25 a32 ⊢
    have hn := s25 _ _ hn
    have fo := s25 _ _ fo
    have A1 := A1.same s25
    have i23 := i23.same s25
    have i27 := i27.same s25
    have i31 := i31.same s25
    have q := q.trans s25
    refine ⟨_, rfl, n, _, 0, _, rfl, rfl, SqT.of hn, at0, (by show 3 ≤ sizeLine; decide), fun x26 f26 => ?_⟩
    have s26 := Same.new (o := .tup [.ref x25, .str n0, .bl true]) f26
    have a33 : (upd H25 x26 (.tup [.ref x25, .str n0, .bl true])) x26 = some (.tup [.ref x25, .str n0, .bl true]) := upd_same
    have m26 := ne_of_none fo f26
    generalize upd H25 x26 (.tup [.ref x25, .str n0, .bl true]) = H26 at s26 a33 ⊢
    have hn := s26 _ _ hn
    have fo := s26 _ _ fo
    have A1 := A1.same s26
    have i23 := i23.same s26
    have i27 := i27.same s26
    have i31 := i31.same s26
    have a32 := s26 _ _ a32
    have q := q.trans s26
    refine ⟨(by show 1 ≤ sizeLine; decide), fun x27 f27 => ?_⟩
    have s27 := Same.new (o := .lst [.ref x26]) f27
    have a34 : (upd H26 x27 (.lst [.ref x26])) x27 = some (.lst [.ref x26]) := upd_same
    have m27 := ne_of_none fo f27
    generalize upd H26 x27 (.lst [.ref x26]) = H27 at s27 a34 ⊢
    have hn := s27 _ _ hn
    have fo := s27 _ _ fo
    have A1 := A1.same s27
    have i23 := i23.same s27
    have i27 := i27.same s27
    have i31 := i31.same s27
    have a32 := s27 _ _ a32
    have a33 := s27 _ _ a33
    have q := q.trans s27
    have i35 : ItS K H27 (n0 :: ns1) (.ref x27) := its_row (t := false) a34 a33 a32 gr5
    refine ⟨(by show 4 ≤ sizeLine; decide), fun x28 f28 => ?_⟩
    have s28 := Same.new (o := .lst [.ref x18, .ref x21, .ref x24, .ref x27]) f28
    have bl36 : (upd H27 x28 (.lst [.ref x18, .ref x21, .ref x24, .ref x27])) x28 = some (.lst [.ref x18, .ref x21, .ref x24, .ref x27]) := upd_same
    have m28 := ne_of_none fo f28
    generalize upd H27 x28 (.lst [.ref x18, .ref x21, .ref x24, .ref x27]) = H28 at s28 bl36 ⊢
    have hn := s28 _ _ hn
    have fo := s28 _ _ fo
    have A1 := A1.same s28
    have i23 := i23.same s28
    have i27 := i27.same s28
    have i31 := i31.same s28
    have i35 := i35.same s28
    have q := q.trans s28
    have A2b : AllS K H28 (n0 :: ns1) [.ref x18, .ref x21, .ref x24, .ref x27] := .cons i23 (.cons i27 (.cons i31 (.cons i35 (AllS.nil))))
    refine ⟨_, _, _, _, rfl, rfl, fo, bl36, (by rw [sizeLine_eq]; simp), fun x29 f29 => ?_⟩
    have s29 := Same.new (o := .lst ([.non, .int 5, .str "a", .ref x1, .ref x2, .ref x5, .ref x8, .ref x11, .ref x14] ++ [.ref x18, .ref x21, .ref x24, .ref x27])) f29
    have fn : (upd H28 x29 (.lst ([.non, .int 5, .str "a", .ref x1, .ref x2, .ref x5, .ref x8, .ref x11, .ref x14] ++ [.ref x18, .ref x21, .ref x24, .ref x27]))) x29 = some (.lst ([.non, .int 5, .str "a", .ref x1, .ref x2, .ref x5, .ref x8, .ref x11, .ref x14] ++ [.ref x18, .ref x21, .ref x24, .ref x27])) := upd_same
    have m29 := ne_of_none fo f29
    generalize upd H28 x29 (.lst ([.non, .int 5, .str "a", .ref x1, .ref x2, .ref x5, .ref x8, .ref x11, .ref x14] ++ [.ref x18, .ref x21, .ref x24, .ref x27])) = H29 at s29 fn ⊢
    have hn := s29 _ _ hn
    have fo := s29 _ _ fo
    have A1 := A1.same s29
    have bl36 := s29 _ _ bl36
    have A2b := A2b.same s29
    have q := q.trans s29
    have fo := fn
    clear fn
    have A2 : AllS K H29 (n0 :: ns1) ([.non, .int 5, .str "a", .ref x1, .ref x2, .ref x5, .ref x8, .ref x11, .ref x14] ++ [.ref x18, .ref x21, .ref x24, .ref x27]) := .app A1 A2b
    refine ⟨_, rfl, _, rfl, n, _, 0, _, rfl, rfl, SqT.of hn, at0, (by show 1 ≤ sizeLine; decide), fun x30 f30 => ?_⟩
    have s30 := Same.new (o := .tup [.str n0]) f30
    have a37 : (upd H29 x30 (.tup [.str n0])) x30 = some (.tup [.str n0]) := upd_same
    have m30 := ne_of_none fo f30
    generalize upd H29 x30 (.tup [.str n0]) = H30 at s30 a37 ⊢
    have hn := s30 _ _ hn
    have fo := s30 _ _ fo
    have A2 := A2.same s30
    have q := q.trans s30
    refine ⟨_, rfl, n, _, 0, _, rfl, rfl, SqT.of hn, at0, (by show 3 ≤ sizeLine; decide), fun x31 f31 => ?_⟩
    have s31 := Same.new (o := .tup [.ref x30, .str n0, .bl true]) f31
    have a38 : (upd H30 x31 (.tup [.ref x30, .str n0, .bl true])) x31 = some (.tup [.ref x30, .str n0, .bl true]) := upd_same
    have m31 := ne_of_none fo f31
    generalize upd H30 x31 (.tup [.ref x30, .str n0, .bl true]) = H31 at s31 a38 ⊢
    have hn := s31 _ _ hn
    have fo := s31 _ _ fo
    have A2 := A2.same s31
    have a37 := s31 _ _ a37
    have q := q.trans s31
    refine ⟨(by show 1 ≤ sizeLine; decide), fun x32 f32 => ?_⟩
    have s32 := Same.new (o := .lst [.ref x31]) f32
    have a39 : (upd H31 x32 (.lst [.ref x31])) x32 = some (.lst [.ref x31]) := upd_same
    have m32 := ne_of_none fo f32
    generalize upd H31 x32 (.lst [.ref x31]) = H32 at s32 a39 ⊢
    have hn := s32 _ _ hn
    have fo := s32 _ _ fo
    have A2 := A2.same s32
    have a37 := s32 _ _ a37
    have a38 := s32 _ _ a38
    have q := q.trans s32
    have i40 : ItS K H32 (n0 :: ns1) (.ref x32) := its_row (t := true) a39 a38 a37 gr6
    refine ⟨(by show 1 ≤ sizeLine; decide), fun x33 f33 => ?_⟩
    have s33 := Same.new (o := .tup [.str "nobody"]) f33
    have a41 : (upd H32 x33 (.tup [.str "nobody"])) x33 = some (.tup [.str "nobody"]) := upd_same
    have m33 := ne_of_none fo f33
    generalize upd H32 x33 (.tup [.str "nobody"]) = H33 at s33 a41 ⊢
    have hn := s33 _ _ hn
    have fo := s33 _ _ fo
    have A2 := A2.same s33
    have i40 := i40.same s33
    have q := q.trans s33
    refine ⟨_, rfl, n, _, 0, _, rfl, rfl, SqT.of hn, at0, (by show 3 ≤ sizeLine; decide), fun x34 f34 => ?_⟩
    have s34 := Same.new (o := .tup [.ref x33, .str n0, .bl true]) f34
    have a42 : (upd H33 x34 (.tup [.ref x33, .str n0, .bl true])) x34 = some (.tup [.ref x33, .str n0, .bl true]) := upd_same
    have m34 := ne_of_none fo f34
    generalize upd H33 x34 (.tup [.ref x33, .str n0, .bl true]) = H34 at s34 a42 ⊢
    have hn := s34 _ _ hn
    have fo := s34 _ _ fo
    have A2 := A2.same s34
    have i40 := i40.same s34
    have a41 := s34 _ _ a41
    have q := q.trans s34
    refine ⟨(by show 1 ≤ sizeLine; decide), fun x35 f35 => ?_⟩
    have s35 := Same.new (o := .lst [.ref x34]) f35
    have a43 : (upd H34 x35 (.lst [.ref x34])) x35 = some (.lst [.ref x34]) := upd_same
    have m35 := ne_of_none fo f35
    generalize upd H34 x35 (.lst [.ref x34]) = H35 at s35 a43 ⊢
    have hn := s35 _ _ hn
    have fo := s35 _ _ fo
    have A2 := A2.same s35
    have i40 := i40.same s35
    have a41 := s35 _ _ a41
    have a42 := s35 _ _ a42
    have q := q.trans s35
    have i44 : ItS K H35 (n0 :: ns1) (.ref x35) := its_row (t := true) a43 a42 a41 gr7
    refine ⟨(by show 1 ≤ sizeLine; decide), fun x36 f36 => ?_⟩
    have s36 := Same.new (o := .tup [.non]) f36
    have a45 : (upd H35 x36 (.tup [.non])) x36 = some (.tup [.non]) := upd_same
    have m36 := ne_of_none fo f36
    generalize upd H35 x36 (.tup [.non]) = H36 at s36 a45 ⊢
    have hn := s36 _ _ hn
    have fo := s36 _ _ fo
    have A2 := A2.same s36
    have i40 := i40.same s36
    have i44 := i44.same s36
    have q := q.trans s36
    refine ⟨_, rfl, n, _, 0, _, rfl, rfl, SqT.of hn, at0, (by show 3 ≤ sizeLine; decide), fun x37 f37 => ?_⟩
    have s37 := Same.new (o := .tup [.ref x36, .str n0, .bl true]) f37
    have a46 : (upd H36 x37 (.tup [.ref x36, .str n0, .bl true])) x37 = some (.tup [.ref x36, .str n0, .bl true]) := upd_same
    have m37 := ne_of_none fo f37
    generalize upd H36 x37 (.tup [.ref x36, .str n0, .bl true]) = H37 at s37 a46 ⊢
    have hn := s37 _ _ hn
    have fo := s37 _ _ fo
    have A2 := A2.same s37
    have i40 := i40.same s37
    have i44 := i44.same s37
    have a45 := s37 _ _ a45
    have q := q.trans s37
    refine ⟨(by show 1 ≤ sizeLine; decide), fun x38 f38 => ?_⟩
    have s38 := Same.new (o := .lst [.ref x37]) f38
    have a47 : (upd H37 x38 (.lst [.ref x37])) x38 = some (.lst [.ref x37]) := upd_same
    have m38 := ne_of_none fo f38
    generalize upd H37 x38 (.lst [.ref x37]) = H38 at s38 a47 ⊢
    have hn := s38 _ _ hn
    have fo := s38 _ _ fo
    have A2 := A2.same s38
    have i40 := i40.same s38
    have i44 := i44.same s38
    have a45 := s38 _ _ a45
    have a46 := s38 _ _ a46
    have q := q.trans s38
    have i48 : ItS K H38 (n0 :: ns1) (.ref x38) := its_row (t := true) a47 a46 a45 gr8
    refine ⟨(by show 3 ≤ sizeLine; decide), fun x39 f39 => ?_⟩
    have s39 := Same.new (o := .lst [.ref x32, .ref x35, .ref x38]) f39
    have bl49 : (upd H38 x39 (.lst [.ref x32, .ref x35, .ref x38])) x39 = some (.lst [.ref x32, .ref x35, .ref x38]) := upd_same
    have m39 := ne_of_none fo f39
    generalize upd H38 x39 (.lst [.ref x32, .ref x35, .ref x38]) = H39 at s39 bl49 ⊢
    have hn := s39 _ _ hn
    have fo := s39 _ _ fo
    have A2 := A2.same s39
    have i40 := i40.same s39
    have i44 := i44.same s39
    have i48 := i48.same s39
    have q := q.trans s39
    have A3b : AllS K H39 (n0 :: ns1) [.ref x32, .ref x35, .ref x38] := .cons i40 (.cons i44 (.cons i48 (AllS.nil)))
    have A3 : AllS K H39 (n0 :: ns1) (([.non, .int 5, .str "a", .ref x1, .ref x2, .ref x5, .ref x8, .ref x11, .ref x14] ++ [.ref x18, .ref x21, .ref x24, .ref x27]) ++ [.ref x32, .ref x35, .ref x38]) := .app A2 A3b
    have qp := q
    have hnp := hn
    have qa := Same.refl H39
    refine ⟨_, _, _, _, rfl, rfl, fo, bl49, (by rw [sizeLine_eq]; simp), fun x40 f40 => ?_⟩
    have s40 := Same.new (o := .lst (([.non, .int 5, .str "a", .ref x1, .ref x2, .ref x5, .ref x8, .ref x11, .ref x14] ++ [.ref x18, .ref x21, .ref x24, .ref x27]) ++ [.ref x32, .ref x35, .ref x38])) f40
    have fn : (upd H39 x40 (.lst (([.non, .int 5, .str "a", .ref x1, .ref x2, .ref x5, .ref x8, .ref x11, .ref x14] ++ [.ref x18, .ref x21, .ref x24, .ref x27]) ++ [.ref x32, .ref x35, .ref x38]))) x40 = some (.lst (([.non, .int 5, .str "a", .ref x1, .ref x2, .ref x5, .ref x8, .ref x11, .ref x14] ++ [.ref x18, .ref x21, .ref x24, .ref x27]) ++ [.ref x32, .ref x35, .ref x38])) := upd_same
    have m40 := ne_of_none fo f40
    generalize upd H39 x40 (.lst (([.non, .int 5, .str "a", .ref x1, .ref x2, .ref x5, .ref x8, .ref x11, .ref x14] ++ [.ref x18, .ref x21, .ref x24, .ref x27]) ++ [.ref x32, .ref x35, .ref x38])) = H40 at s40 fn ⊢
    have hn := s40 _ _ hn
    have fo := s40 _ _ fo
    have bl49 := s40 _ _ bl49
    have qa := qa.trans s40
    have fo := fn
    clear fn
    refine ⟨_, rfl, _, ((n0 :: ns1).map V.str).length, rfl, .inr ⟨_, SqT.of hn, rfl⟩, _, _, rfl, rfl, _, rfl, ifB (fun c => ?_) (fun c => ?_)⟩
    · obtain ⟨n1, n2, ns3, rfl⟩ : ∃ n1 n2 ns3, ns1 = n1 :: n2 :: ns3 := by
        have c := of_decide_eq_true c
        rw [List.length_map] at c
        match ns1, c with
        | [], c => simp at c
        | [_], c => simp at c
        | n1 :: n2 :: ns3, _ => exact ⟨n1, n2, ns3, rfl⟩
      obtain ⟨gr9, gr10⟩ := He.ba (show (_ && _) = true from goodb)
      have at1 : atI ((n0 :: n1 :: n2 :: ns3).map V.str) 1 = some (.str n1) := at_of (j := 1) rfl rfl
      have at2 : atI ((n0 :: n1 :: n2 :: ns3).map V.str) 2 = some (.str n2) := at_of (j := 2) rfl rfl
      refine ⟨_, rfl, .inl ⟨rfl, _, SqL.of fo⟩, _, rfl, n, _, 1, _, rfl, rfl, SqT.of hn, at1, _, rfl, n, _, 0, _, rfl, rfl, SqT.of hn, at0, (by show 2 ≤ sizeLine; decide), fun x41 f41 => ?_⟩
      have s41 := Same.new (o := .tup [.str n1, .str n0]) f41
      have a50 : (upd H40 x41 (.tup [.str n1, .str n0])) x41 = some (.tup [.str n1, .str n0]) := upd_same
      have m41 := ne_of_none fo f41
      generalize upd H40 x41 (.tup [.str n1, .str n0]) = H41 at s41 a50 ⊢
      have fo := s41 _ _ fo
      have hn := s41 _ _ hn
      have qa := qa.trans s41
      refine ⟨_, rfl, n, _, 2, _, rfl, rfl, SqT.of hn, at2, (by show 3 ≤ sizeLine; decide), fun x42 f42 => ?_⟩
      have s42 := Same.new (o := .tup [.ref x41, .str n2, .bl true]) f42
      have a51 : (upd H41 x42 (.tup [.ref x41, .str n2, .bl true])) x42 = some (.tup [.ref x41, .str n2, .bl true]) := upd_same
      have m42 := ne_of_none fo f42
      generalize upd H41 x42 (.tup [.ref x41, .str n2, .bl true]) = H42 at s42 a51 ⊢
      have fo := s42 _ _ fo
      have hn := s42 _ _ hn
      have a50 := s42 _ _ a50
      have qa := qa.trans s42
      refine ⟨(by show 1 ≤ sizeLine; decide), fun x43 f43 => ?_⟩
      have s43 := Same.new (o := .lst [.ref x42]) f43
      have a52 : (upd H42 x43 (.lst [.ref x42])) x43 = some (.lst [.ref x42]) := upd_same
      have m43 := ne_of_none fo f43
      generalize upd H42 x43 (.lst [.ref x42]) = H43 at s43 a52 ⊢
      have fo := s43 _ _ fo
      have hn := s43 _ _ hn
      have a50 := s43 _ _ a50
      have a51 := s43 _ _ a51
      have qa := qa.trans s43
      refine ⟨_, _, _, rfl, rfl, fo, (by rw [sizeLine_eq]; simp), ?_⟩
      have a50 := (upd_ne (H := H43) (o := .lst ((([.non, .int 5, .str "a", .ref x1, .ref x2, .ref x5, .ref x8, .ref x11, .ref x14] ++ [.ref x18, .ref x21, .ref x24, .ref x27]) ++ [.ref x32, .ref x35, .ref x38]) ++ [.ref x43])) m41.symm).trans a50
      have a51 := (upd_ne (H := H43) (o := .lst ((([.non, .int 5, .str "a", .ref x1, .ref x2, .ref x5, .ref x8, .ref x11, .ref x14] ++ [.ref x18, .ref x21, .ref x24, .ref x27]) ++ [.ref x32, .ref x35, .ref x38]) ++ [.ref x43])) m42.symm).trans a51
      have a52 := (upd_ne (H := H43) (o := .lst ((([.non, .int 5, .str "a", .ref x1, .ref x2, .ref x5, .ref x8, .ref x11, .ref x14] ++ [.ref x18, .ref x21, .ref x24, .ref x27]) ++ [.ref x32, .ref x35, .ref x38]) ++ [.ref x43])) m43.symm).trans a52
      have hn := (upd_ne (H := H43) (o := .lst ((([.non, .int 5, .str "a", .ref x1, .ref x2, .ref x5, .ref x8, .ref x11, .ref x14] ++ [.ref x18, .ref x21, .ref x24, .ref x27]) ++ [.ref x32, .ref x35, .ref x38]) ++ [.ref x43])) (ne_of_none hnp f40)).trans hn
      have qa := Same.over qa f40 (o := .lst ((([.non, .int 5, .str "a", .ref x1, .ref x2, .ref x5, .ref x8, .ref x11, .ref x14] ++ [.ref x18, .ref x21, .ref x24, .ref x27]) ++ [.ref x32, .ref x35, .ref x38]) ++ [.ref x43]))
      have fo : (upd H43 x40 (.lst ((([.non, .int 5, .str "a", .ref x1, .ref x2, .ref x5, .ref x8, .ref x11, .ref x14] ++ [.ref x18, .ref x21, .ref x24, .ref x27]) ++ [.ref x32, .ref x35, .ref x38]) ++ [.ref x43]))) x40 = some (.lst ((([.non, .int 5, .str "a", .ref x1, .ref x2, .ref x5, .ref x8, .ref x11, .ref x14] ++ [.ref x18, .ref x21, .ref x24, .ref x27]) ++ [.ref x32, .ref x35, .ref x38]) ++ [.ref x43])) := upd_same
      generalize upd H43 x40 (.lst ((([.non, .int 5, .str "a", .ref x1, .ref x2, .ref x5, .ref x8, .ref x11, .ref x14] ++ [.ref x18, .ref x21, .ref x24, .ref x27]) ++ [.ref x32, .ref x35, .ref x38]) ++ [.ref x43])) = H44 at a50 a51 a52 hn qa fo ⊢
      refine ⟨_, rfl, .inl ⟨rfl, _, SqL.of fo⟩, _, rfl, n, _, 0, _, rfl, rfl, SqT.of hn, at0, _, rfl, n, _, 0, _, rfl, rfl, SqT.of hn, at0, (by show 2 ≤ sizeLine; decide), fun x45 f45 => ?_⟩
      have s45 := Same.new (o := .tup [.str n0, .str n0]) f45
      have a53 : (upd H44 x45 (.tup [.str n0, .str n0])) x45 = some (.tup [.str n0, .str n0]) := upd_same
      have m45 := ne_of_none fo f45
      generalize upd H44 x45 (.tup [.str n0, .str n0]) = H45 at s45 a53 ⊢
      have fo := s45 _ _ fo
      have hn := s45 _ _ hn
      have a50 := s45 _ _ a50
      have a51 := s45 _ _ a51
      have a52 := s45 _ _ a52
      have qa := qa.trans s45
      refine ⟨_, rfl, n, _, 2, _, rfl, rfl, SqT.of hn, at2, (by show 3 ≤ sizeLine; decide), fun x46 f46 => ?_⟩
      have s46 := Same.new (o := .tup [.ref x45, .str n2, .bl false]) f46
      have a54 : (upd H45 x46 (.tup [.ref x45, .str n2, .bl false])) x46 = some (.tup [.ref x45, .str n2, .bl false]) := upd_same
      have m46 := ne_of_none fo f46
      generalize upd H45 x46 (.tup [.ref x45, .str n2, .bl false]) = H46 at s46 a54 ⊢
      have fo := s46 _ _ fo
      have hn := s46 _ _ hn
      have a50 := s46 _ _ a50
      have a51 := s46 _ _ a51
      have a52 := s46 _ _ a52
      have a53 := s46 _ _ a53
      have qa := qa.trans s46
      refine ⟨(by show 1 ≤ sizeLine; decide), fun x47 f47 => ?_⟩
      have s47 := Same.new (o := .lst [.ref x46]) f47
      have a55 : (upd H46 x47 (.lst [.ref x46])) x47 = some (.lst [.ref x46]) := upd_same
      have m47 := ne_of_none fo f47
      generalize upd H46 x47 (.lst [.ref x46]) = H47 at s47 a55 ⊢
      have fo := s47 _ _ fo
      have hn := s47 _ _ hn
      have a50 := s47 _ _ a50
      have a51 := s47 _ _ a51
      have a52 := s47 _ _ a52
      have a53 := s47 _ _ a53
      have a54 := s47 _ _ a54
      have qa := qa.trans s47
      refine ⟨_, _, _, rfl, rfl, fo, (by rw [sizeLine_eq]; simp), ?_⟩
      have a50 := (upd_ne (H := H47) (o := .lst (((([.non, .int 5, .str "a", .ref x1, .ref x2, .ref x5, .ref x8, .ref x11, .ref x14] ++ [.ref x18, .ref x21, .ref x24, .ref x27]) ++ [.ref x32, .ref x35, .ref x38]) ++ [.ref x43]) ++ [.ref x47])) m41.symm).trans a50
      have a51 := (upd_ne (H := H47) (o := .lst (((([.non, .int 5, .str "a", .ref x1, .ref x2, .ref x5, .ref x8, .ref x11, .ref x14] ++ [.ref x18, .ref x21, .ref x24, .ref x27]) ++ [.ref x32, .ref x35, .ref x38]) ++ [.ref x43]) ++ [.ref x47])) m42.symm).trans a51
      have a52 := (upd_ne (H := H47) (o := .lst (((([.non, .int 5, .str "a", .ref x1, .ref x2, .ref x5, .ref x8, .ref x11, .ref x14] ++ [.ref x18, .ref x21, .ref x24, .ref x27]) ++ [.ref x32, .ref x35, .ref x38]) ++ [.ref x43]) ++ [.ref x47])) m43.symm).trans a52
      have a53 := (upd_ne (H := H47) (o := .lst (((([.non, .int 5, .str "a", .ref x1, .ref x2, .ref x5, .ref x8, .ref x11, .ref x14] ++ [.ref x18, .ref x21, .ref x24, .ref x27]) ++ [.ref x32, .ref x35, .ref x38]) ++ [.ref x43]) ++ [.ref x47])) m45.symm).trans a53
      have a54 := (upd_ne (H := H47) (o := .lst (((([.non, .int 5, .str "a", .ref x1, .ref x2, .ref x5, .ref x8, .ref x11, .ref x14] ++ [.ref x18, .ref x21, .ref x24, .ref x27]) ++ [.ref x32, .ref x35, .ref x38]) ++ [.ref x43]) ++ [.ref x47])) m46.symm).trans a54
      have a55 := (upd_ne (H := H47) (o := .lst (((([.non, .int 5, .str "a", .ref x1, .ref x2, .ref x5, .ref x8, .ref x11, .ref x14] ++ [.ref x18, .ref x21, .ref x24, .ref x27]) ++ [.ref x32, .ref x35, .ref x38]) ++ [.ref x43]) ++ [.ref x47])) m47.symm).trans a55
      have hn := (upd_ne (H := H47) (o := .lst (((([.non, .int 5, .str "a", .ref x1, .ref x2, .ref x5, .ref x8, .ref x11, .ref x14] ++ [.ref x18, .ref x21, .ref x24, .ref x27]) ++ [.ref x32, .ref x35, .ref x38]) ++ [.ref x43]) ++ [.ref x47])) (ne_of_none hnp f40)).trans hn
      have qa := Same.over qa f40 (o := .lst (((([.non, .int 5, .str "a", .ref x1, .ref x2, .ref x5, .ref x8, .ref x11, .ref x14] ++ [.ref x18, .ref x21, .ref x24, .ref x27]) ++ [.ref x32, .ref x35, .ref x38]) ++ [.ref x43]) ++ [.ref x47]))
      have fo : (upd H47 x40 (.lst (((([.non, .int 5, .str "a", .ref x1, .ref x2, .ref x5, .ref x8, .ref x11, .ref x14] ++ [.ref x18, .ref x21, .ref x24, .ref x27]) ++ [.ref x32, .ref x35, .ref x38]) ++ [.ref x43]) ++ [.ref x47]))) x40 = some (.lst (((([.non, .int 5, .str "a", .ref x1, .ref x2, .ref x5, .ref x8, .ref x11, .ref x14] ++ [.ref x18, .ref x21, .ref x24, .ref x27]) ++ [.ref x32, .ref x35, .ref x38]) ++ [.ref x43]) ++ [.ref x47])) := upd_same
      generalize upd H47 x40 (.lst (((([.non, .int 5, .str "a", .ref x1, .ref x2, .ref x5, .ref x8, .ref x11, .ref x14] ++ [.ref x18, .ref x21, .ref x24, .ref x27]) ++ [.ref x32, .ref x35, .ref x38]) ++ [.ref x43]) ++ [.ref x47])) = H48 at a50 a51 a52 a53 a54 a55 hn qa fo ⊢
      exact ⟨_, rfl, k _ _ _ (qp.trans qa) fo (.app (.app (A3.same qa) (.cons (its_row (t := true) a52 a51 a50 gr9) .nil)) (.cons (its_row (t := true) a55 a54 a53 gr10) .nil)) (by simp)⟩
    · exact ⟨_, rfl, k _ _ _ (qp.trans qa) fo (A3.same qa) (by simp)⟩
end
end Rt
end
section
set_option Elab.async false
set_option linter.all false
set_option maxRecDepth 100000
set_option maxHeartbeats 8000000
/-! three questions that are refused alike -/
namespace Rt
open PySem PySem.Spec PyProof.Rows L2
open LamX (ExtN Tabs TabB)
theorem code_tab {K : PySem.W.Frag} {x : Str} {c T : Addr} (h : PySem.W.tabIn K x = some (c, T)) : codeOf K (He.ga K x) = some (.ref c) := by
  unfold PySem.W.tabIn at h
  split at h
  · rename_i f hf
    have eg : He.ga K x = f := by unfold He.ga; rw [hf]
    rw [eg]
    split at h
    · rename_i fd _ hl
      unfold codeOf
      rw [hl]
      split at h
      · rename_i c2 hc
        split at h
        · split at h
          · cases h
            show some fd.code = some (.ref c)
            rw [hc]
          · cases h
        · cases h
      · cases h
    · cases h
  · cases h
theorem code_lam {K : PySem.W.Frag} {x : Str} {cdv : Value} (h : lamB K x = true) (e : codeOf K (He.ga K x) = some cdv) : cdv = .ref (lamC K x) := by
  cases q : PySem.W.tabIn K x with
  | some p =>
    obtain ⟨c, T⟩ := p
    have z := code_tab q
    rw [z] at e
    have y : lamC K x = c := by unfold lamC; rw [q]
    rw [y]
    exact (Option.some.inj e).symm
  | none =>
    obtain ⟨h1, _⟩ := He.ba h
    have c0 : lamC K x = 0 := by unfold lamC; rw [q]
    have p0 : lamP K x = 0 := by unfold lamP; rw [q]
    rw [c0, p0] at h1
    unfold PySem.W.codeHdIn at h1
    split at h1
    · simp at h1
    · cases h1
section
variable {X : Cx} {k : Nat} {x : Str} {f : Addr} {fd : FuncData} {ps : List Str} {sp : SpG} {e : Expr} {es : List Expr} {p pos : Pos} {t : TA}
theorem pe_callG (F : FnG X.prog X.w X.K X.mg X.base k f fd ps sp) (gu : X.A.guards = some []) (hr : Room k X.A) (hg : Gl X x) (hm : X.mg x = some (.ref f)) (hk : PySem.W.keepIn X.K (.ref f) = true) (ha : PA X (e :: es) t)
    (hdb : (x == ("__debug__" : Str)) = false := by decide) (he : starEach (e :: es) X.env = (false, eval e X.env) :: starEach es X.env := by rfl) (hpl : (backTo pos (starEach es X.env)).any (·.1) = false := by rfl) :
    PE X (.Call (.Name x p) (e :: es) [] pos) (fun σ H Q => t σ H fun vs H1 => sp vs H1 Q) := by
  refine ⟨fun pins s σ H Q I h => wpAny_Call_Name_kw (ld_glob I hg hm ?_ hdb)⟩
  refine PySem.W.callWith_K (h₀ := X.base) I.ok.mod.kin hk (thn (ha.run pos pins s σ H _ I h) fun us s1 ⟨vs, H1, I1, r1, q1⟩ => ⟨I1.kIn, ?_⟩) he hpl
  show wpAny _ _ (call (.ref f) us) _ _ _
  refine wpAny_call (codeAny_mono (F.run X.A X.stack s1 H1 us vs Q gu hr I1.env0 r1 q1) fun r s2 hq => ?_)
  match r, hq with
  | .error e, hq => exact (show False from hq).elim
  | .ok (.ret u), hq => exact I1.after hq
  | .ok .next, hq => exact False.elim hq
  | .ok .brk, hq => exact False.elim hq
  | .ok .cont, hq => exact False.elim hq
/-- a def called where the context is that of a lambda -/
theorem pe_calK {P : Program} {w : World} {K : PySem.W.Frag} {mg : Str → Option Value} {base : Heap} {CX : CXT} {sp : Sp} {E : XK} (C : Cal P w K mg base CX k x ps sp) (same : X.prog = P ∧ X.w = w ∧ X.K = K ∧ X.mg = mg ∧ X.base = base) (hr : Room k X.A) (hg : Gl X x) (hx : Passes CX X E) (ha : PA X (e :: es) t)
    (hdb : (x == ("__debug__" : Str)) = false := by decide) (h1 : starEach (e :: es) X.env = (false, eval e X.env) :: starEach es X.env := by rfl)
    (h2 : (backTo pos (starEach es X.env)).any (·.1) = false := by rfl) : PE X (.Call (.Name x p) (e :: es) [] pos) (tCall sp [] E t) := by
  obtain ⟨rfl, rfl, rfl, rfl, rfl⟩ := same
  exact pe_cal C hr hg hx ha hdb h1 h2
end
/-! ### the tables -/
def qOf (x : Str) (sc : Scope) : Str := (envOfC x sc 0 0 .none).qual ++ "<lambda>"
def tabT (K : PySem.W.Frag) : List (Addr × Str) := [(lamP K "_law_all_refused", qOf "_law_all_refused" (defScope s_law_all_refused)), (lamP K "law", qOf "law" (defScope s_law))]
theorem tab_a {K : PySem.W.Frag} (c : SaysX K) : ∀ p ∈ tabT K, p.1 = lamP K "_law_all_refused" → p.2 = qOf "_law_all_refused" (defScope s_law_all_refused) := fun p hp e => by
  rcases List.mem_cons.mp hp with rfl | hp
  · rfl
  · rw [List.mem_singleton.mp hp] at e
    exact absurd e.symm c.ne
theorem tab_l {K : PySem.W.Frag} (c : SaysX K) : ∀ p ∈ tabT K, p.1 = lamP K "law" → p.2 = qOf "law" (defScope s_law) := fun p hp e => by
  rcases List.mem_cons.mp hp with rfl | hp
  · exact absurd e c.ne
  · rw [List.mem_singleton.mp hp]
/-- three times the same -/
def Three (H : Hp) (L : Addr) (w t : Str) : Prop := ∃ l1 l2 l3, H L = some (.lst [.ref l1, .ref l2, .ref l3]) ∧ H l1 = some (.lst [.str w, .str t]) ∧ H l2 = some (.lst [.str w, .str t]) ∧ H l3 = some (.lst [.str w, .str t])
def spAR (K : PySem.W.Frag) : SpG := fun vs H Q => ∃ (n s z : V) (c f w : Str) (y : V) (t : Str), vs = [n, s, z] ∧ Kind2 c f w ∧ BadQ K H n s z c f y ∧ Rp K H y t ∧ Tabs (tabT K) H ∧
  ∀ L H', ExtN H H' → Tabs (tabT K) H' → Three H' L w t → Q (.ref L) H'
theorem tabs_put {T : List (Addr × Str)} {G : Hp} {p : Addr} {xs ys : List V} (t : Tabs T G) (hp : G p = some (.lst xs)) : Tabs T (upd G p (.lst ys)) := fun r hr => by
  obtain ⟨ps, h1, h2, h3⟩ := t r hr
  have n1 : r.1 ≠ p := fun e => by
    rw [e, hp] at h1
    cases h1
  refine ⟨ps, (upd_ne n1).trans h1, h2, fun pos cv hc => ?_⟩
  obtain ⟨c, e1, e2⟩ := h3 pos cv hc
  have n2 : c ≠ p := fun e => by
    rw [e, hp] at e2
    unfold LamX.CodeO at e2
    cases e2
  exact ⟨c, e1, (upd_ne n2).trans e2⟩
section
variable {P : Program} {w : World} {K : PySem.W.Frag} {mg : Str → Option Value} {base : Heap}
theorem fn_ar (W : AllX K mg) (TB : TabB base mg (lamC K "_law_all_refused") (lamP K "_law_all_refused")) : ∃ fd, FnG P w K mg base 14 (He.ga K "_law_all_refused") fd ["_law_names", "_law_seen", "_law_skill"] (spAR K) ∧ PySem.W.keepIn K (.ref (He.ga K "_law_all_refused")) = true := by
  have Z := W.z
  obtain ⟨fd, F⟩ := Z.f_law_all_refused
  obtain ⟨fT, FT⟩ := Z.f_law_caught
  have C1 : Cal P w K mg base (L2.CX P w) 10 "must" ["names", "seen", "skill"] (spQE K) := calx_must W
  have C2 : Cal P w K mg base (L2.CX P w) 9 "may" ["names", "seen", "skill"] (spQE K) := calx_may W
  have C3 : Cal P w K mg base (L2.CX P w) 11 "next_ask" ["names", "seen", "skill"] (spQE K) := calx_next_ask W
  have bT : Binds K fT ["_law_call"] [] := FT.bindsN (fun _ _ _ _ _ _ us hl => match us, hl with | [_], _ => rfl)
  obtain ⟨oc, od, dV, kV, doc, pm, an, cdT, ct, osl, rfl, lkT, cgT, _, _⟩ := FT.ex
  refine ⟨fd, FnG.of F sc_law_all_refused (F.bindsN (fun _ _ _ _ _ _ us hl => match us, hl with | [_, _, _], _ => rfl)) (fun vs H Q h => ?_) (fun cdv A outer s H vs Q hcd gu0 hr h => ?_), F.kp⟩
  · obtain ⟨n, sn, z, c, f, w, y, t, rfl, _⟩ := h
    rfl
  · obtain ⟨n, sn, z, c, f, wd, y, t, rfl, kd, bad, rp, tabs, k⟩ := h
    have ecd := code_lam (W.x.lam (y := "_law_all_refused") (by simp [lamD])) hcd
    subst ecd
    have un := hr.un
    have gu : (A.deeper (envOfC "_law_all_refused" (defScope s_law_all_refused) s.heap.objs.size (He.ga K "_law_all_refused") (.ref (lamC K "_law_all_refused")))).guards = some [] := gu0
    have room : (A.deeper (envOfC "_law_all_refused" (defScope s_law_all_refused) s.heap.objs.size (He.ga K "_law_all_refused") (.ref (lamC K "_law_all_refused")))).units + 90 < cLine := by omega
    have hcode : (cxOf C8.CX0 P w K mg base ["_law_names", "_law_seen", "_law_skill", "_law_found"] "_law_all_refused" (defScope s_law_all_refused) (He.ga K "_law_all_refused") (.ref (lamC K "_law_all_refused")) A outer s H C8.E0).nox.env.code = .ref (lamC K "_law_all_refused") := rfl
    refine ⟨_, (pss_cons (ps_set (i := 3) sc_law_all_refused.nd rfl (Or.inl rfl) (pe_lst (pa_cons (LamX.pe_lamcall (k := 11) (T := tabT K) (TT := TC K) (by rfl) Z.g_law_caught FT.kp lkT cgT bT sc_law_caught rfl (Or.inl rfl) (caught_gives W gu (by exact room)) TB hcode (List.mem_cons_self) (tab_a W.x) (hr.mono (by decide)) (show LamX.LamS (defScope s_law_all_refused) _ from LamX.lamS_by (by decide +kernel)) rfl (fun _ _ _ _ _ => rfl) (fun A outer s H E f c2 hr2 => (pe_calK C1 ⟨rfl, rfl, rfl, rfl, rfl⟩ (hr2.mono (by decide)) (by rfl) (pass_up (takes_of rfl rfl rfl rfl)) (pa_cons (pv 0) (pa_cons (pv 1) (pa_cons (pv 2) pa_nil)))))) pa_nil)))
      (pss_cons (ps_expr (pe_bm PySem.F.plainAttrs_list PySem.F.slot_list_append PySem.F.type_list_append mt_append (pv 3) (pa_cons (LamX.pe_lamcall (k := 11) (T := tabT K) (TT := TC K) (by rfl) Z.g_law_caught FT.kp lkT cgT bT sc_law_caught rfl (Or.inl rfl) (caught_gives W gu (by exact room)) TB hcode (List.mem_cons_self) (tab_a W.x) (hr.mono (by decide)) (show LamX.LamS (defScope s_law_all_refused) _ from LamX.lamS_by (by decide +kernel)) rfl (fun _ _ _ _ _ => rfl) (fun A outer s H E f c2 hr2 => (pe_calK C2 ⟨rfl, rfl, rfl, rfl, rfl⟩ (hr2.mono (by decide)) (by rfl) (pass_up (takes_of rfl rfl rfl rfl)) (pa_cons (pv 0) (pa_cons (pv 1) (pa_cons (pv 2) pa_nil)))))) pa_nil)))
      (pss_one (ps_ret (pe_op op_cat (pv 3) (pe_lst (pa_cons (LamX.pe_lamcall (k := 11) (T := tabT K) (TT := TC K) (by rfl) Z.g_law_caught FT.kp lkT cgT bT sc_law_caught rfl (Or.inl rfl) (caught_gives W gu (by exact room)) TB hcode (List.mem_cons_self) (tab_a W.x) (hr.mono (by decide)) (show LamX.LamS (defScope s_law_all_refused) _ from LamX.lamS_by (by decide +kernel)) rfl (fun _ _ _ _ _ => rfl) (fun A outer s H E f c2 hr2 => (pe_calK C3 ⟨rfl, rfl, rfl, rfl, rfl⟩ (hr2.mono (by decide)) (by rfl) (pass_up (takes_of rfl rfl rfl rfl)) (pa_cons (pv 0) (pa_cons (pv 1) (pa_cons (pv 2) pa_nil)))))) pa_nil))))))), ?_⟩
    -- each call: the lambda raises, the error is told
    have told : ∀ {G : Hp} {Q' : VK}, ExtN H G → (∀ L G', Same G G' → G' L = some (.lst [.str wd, .str t]) → Q' (.ref L) G') → Err K c f y G (Tells K Q') := fun {G Q'} e k' d G2 nd s2 hd =>
      ⟨c, f, wd, d, y, t, kd, rfl, rfl, hd, rp.xn (e.trans (ExtN.of s2)), fun L nL => k' L _ (s2.trans (Same.new nL)) upd_same⟩
    refine ⟨tabs, fun G1 e1 u1 => ?_⟩
    refine ⟨_, rfl, _, rfl, _, rfl, n, sn, z, c, f, y, rfl, bad.xn e1, told e1 fun l1 G1' s1 h1 => ?_⟩
    refine ⟨(by show 1 ≤ sizeLine; decide), fun fo nfo => ?_⟩
    have s2 := Same.new (o := .lst [.ref l1]) nfo
    have hfo : (upd G1' fo (.lst [.ref l1])) fo = some (.lst [.ref l1]) := upd_same
    generalize upd G1' fo (.lst [.ref l1]) = G2 at s2 hfo ⊢
    have h1 := s2 _ _ h1
    have e2 := (e1.trans (ExtN.of s1)).trans (ExtN.of s2)
    have u2 := (u1.ext s1).ext s2
    refine ⟨_, rfl, .inl ⟨rfl, _, SqL.of hfo⟩, u2, fun G3 e3 u3 => ?_⟩
    have e23 := e2.trans e3
    have hfo := xn_lst e3 hfo
    have h1 := xn_lst e3 h1
    refine ⟨_, rfl, _, rfl, _, rfl, n, sn, z, c, f, y, rfl, bad.xn e23, told e23 fun l2 G3' s3 h2 => ?_⟩
    have hfo := s3 _ _ hfo
    have h1 := s3 _ _ h1
    refine ⟨fo, _, _, rfl, rfl, hfo, (by rw [sizeLine_eq]; simp), ?_⟩
    have n1 : l1 ≠ fo := fun e => by
      rw [e, hfo] at h1
      cases h1
    have n2 : l2 ≠ fo := fun e => by
      rw [e, hfo] at h2
      cases h2
    have h1 := (upd_ne (H := G3') (o := .lst ([.ref l1] ++ [.ref l2])) n1).trans h1
    have h2 := (upd_ne (H := G3') (o := .lst ([.ref l1] ++ [.ref l2])) n2).trans h2
    have u4 := tabs_put (ys := [.ref l1] ++ [.ref l2]) (u3.ext s3) hfo
    have e4 : ExtN H (upd G3' fo (.lst ([.ref l1] ++ [.ref l2]))) := fun b o hb no => by
      rw [upd_ne (ne_of_none (((e1.trans (ExtN.of s1))) b o hb no) nfo)]
      exact (e23.trans (ExtN.of s3)) b o hb no
    have hfo : (upd G3' fo (.lst ([.ref l1] ++ [.ref l2]))) fo = some (.lst ([.ref l1] ++ [.ref l2])) := upd_same
    generalize upd G3' fo (.lst ([.ref l1] ++ [.ref l2])) = G4 at h1 h2 u4 e4 hfo ⊢
    refine ⟨_, rfl, u4, fun G5 e5 u5 => ?_⟩
    have e45 := e4.trans e5
    refine ⟨_, rfl, _, rfl, _, rfl, n, sn, z, c, f, y, rfl, bad.xn e45, told e45 fun l3 G6 s6 h3 => ?_⟩
    have h1 := s6 _ _ (xn_lst e5 h1)
    have h2 := s6 _ _ (xn_lst e5 h2)
    have hfo := s6 _ _ (xn_lst e5 hfo)
    refine ⟨(by show 1 ≤ sizeLine; decide), fun g ng => ?_⟩
    have s7 := Same.new (o := .lst [.ref l3]) ng
    have hg : (upd G6 g (.lst [.ref l3])) g = some (.lst [.ref l3]) := upd_same
    generalize upd G6 g (.lst [.ref l3]) = G7 at s7 hg ⊢
    refine ⟨fo, g, _, _, rfl, rfl, s7 _ _ hfo, hg, (by rw [sizeLine_eq]; simp), fun r nr => ?_⟩
    have s8 := s7.trans (Same.new (o := .lst ([.ref l1] ++ [.ref l2] ++ [.ref l3])) nr)
    exact k r _ (e45.trans (ExtN.of (s6.trans s8))) ((u5.ext s6).ext s8) ⟨l1, l2, l3, upd_same, s8 _ _ h1, s8 _ _ h2, s8 _ _ h3⟩
end
end Rt
end
section
set_option Elab.async false
set_option linter.all false
set_option maxRecDepth 100000
set_option maxHeartbeats 8000000
/-! the law's own def -/
namespace Rt
open PySem PySem.Spec PyProof.Rows L2
open LamX (ExtN Tabs TabB)
theorem told_made {K : PySem.W.Frag} {c f w : Str} {y : V} {t : Str} {G : Hp} {Q' : VK} (kd : Kind2 c f w) (rp : Rp K G y t) (k : ∀ L G', Same G G' → G' L = some (.lst [.str w, .str t]) → Q' (.ref L) G') : Err K c f y G (Tells K Q') := fun d G2 nd s2 hd =>
  ⟨c, f, w, d, y, t, kd, rfl, rfl, hd, rp.xn (ExtN.of s2), fun L nL => k L _ (s2.trans (Same.new nL)) upd_same⟩
def pairD (w t : Str) : PyData := .list [.str w, .str t]
theorem dp_pair {K : PySem.W.Frag} {H : Hp} {l : Addr} {w t : Str} (h : H l = some (.lst [.str w, .str t])) : Dp K H (.ref l) (pairD w t) := .lst (SqL.of h) (.cons (.str _) (.cons (.str _) .nil))
theorem lay_pair {w t : Str} (hw : PyData.strOk w = true) (ht : PyData.strOk t = true) : Lay 3 (pairD w t) := (Lay.lst (.cons (Lay.str hw) (.cons (Lay.str ht) .nil) : LayA 1 _)).mono (by decide)
theorem dp_three {K : PySem.W.Frag} {H : Hp} {l : Addr} {w t : Str} (h : Three H l w t) : Dp K H (.ref l) (.list [pairD w t, pairD w t, pairD w t]) := by
  obtain ⟨l1, l2, l3, h, h1, h2, h3⟩ := h
  exact .lst (SqL.of h) (.cons (dp_pair h1) (.cons (dp_pair h2) (.cons (dp_pair h3) .nil)))
theorem lay_three {w t : Str} (hw : PyData.strOk w = true) (ht : PyData.strOk t = true) : Lay 4 (.list [pairD w t, pairD w t, pairD w t]) := .lst (.cons (lay_pair hw ht) (.cons (lay_pair hw ht) (.cons (lay_pair hw ht) .nil)))
theorem Three.same {H H' : Hp} {L : Addr} {w t : Str} (h : Three H L w t) (s : Same H H') : Three H' L w t := let ⟨a, b, c, h, h1, h2, h3⟩ := h; ⟨a, b, c, s _ _ h, s _ _ h1, s _ _ h2, s _ _ h3⟩
theorem words_ok : PyData.strOk "skill" = true ∧ PyData.strOk "seen" = true := by decide +kernel
def gC (ns : List Str) : Bool := match ns with
  | n0 :: _ => (fits (.tuple [.str n0]) && fits (.list [.str n0])) && (!isOne ns (.str "nobody") && !isOne ns (.str ""))
  | [] => true
theorem all_goodC : ([T1, T2, T3].all fun N => [1, 2, 3, 4].all fun m => gC (N.take m)) = true := by decide +kernel
theorem NmT.goodC {ns : List Str} (h : NmT ns) : gC ns = true := by
  obtain ⟨N, m, hN, m1, m4, rfl⟩ := h
  have q := List.all_eq_true.mp all_goodC N (by rcases hN with rfl | rfl | rfl <;> simp)
  exact List.all_eq_true.mp q m (by simp; omega)
/-- what is no skill of the names -/
def ItZ (K : PySem.W.Frag) (H : Hp) (ns : List Str) (x : V) : Prop := (∃ T, Ts K H x T) ∧ isOne ns x = false ∧ Tl K H x
theorem ItZ.xn {K : PySem.W.Frag} {H H' : Hp} {ns : List Str} {x : V} (h : ItZ K H ns x) (e : ExtN H H') : ItZ K H' ns x := ⟨let ⟨T, t⟩ := h.1; ⟨T, t.xn e⟩, h.2.1, h.2.2.xn e⟩
def spLaw (K : PySem.W.Frag) : SpG := fun vs H Q => ∃ (a : Addr) (ns : List Int), vs = [.ref a] ∧ SqL K H a (ns.map V.int) ∧ Tabs (tabT K) H ∧ ∀ H', Q (.bl true) H'
section
variable {P : Program} {w : World} {K : PySem.W.Frag} {mg : Str → Option Value} {base : Heap}
theorem fn_law (W : AllX K mg) (TA : TabB base mg (lamC K "_law_all_refused") (lamP K "_law_all_refused")) (TB : TabB base mg (lamC K "law") (lamP K "law")) : ∃ fd, FnG P w K mg base 15 (He.ga K "law") fd ["_law_script"] (spLaw K) ∧ Binds K fd ["_law_script"] [] := by
  have Z := W.z
  obtain ⟨fd, F⟩ := Z.f_law
  obtain ⟨fT, FT⟩ := Z.f_law_caught
  obtain ⟨fA, FA, KA⟩ := fn_ar (P := P) (w := w) W TA
  have C_law_pool : Cal P w K mg base CX0 1 "_law_pool" ["_law_script", "_law_k"] (spPool K) := cal_law_pool Z
  have C_law_take : Cal P w K mg base CX0 1 "_law_take" ["_law_pool_here", "_law_bound"] spTake := cal_law_take Z
  have C_law_told_names : Cal P w K mg base CX0 3 "_law_told_names" ["_law_pool_here", "_law_top"] spTNames := cal_law_told_names Z
  have C_law_answers : Cal P w K mg base CX0 3 "_law_answers" ["_law_pool_here", "_law_names", "_law_many"] (spAnswers K) := cal_law_answers Z
  have C_is_seen : Cal P w K mg base CX0 5 "is_seen" ["names", "value"] (spSeen K) := cal_is_seen Z
  have CN : Cal P w K mg base CX0 5 "is_seen" ["names", "value"] (spSeenN K) := cal_is_seenN Z
  have CS : Cal P w K mg base (L2.CX P w) 5 "is_seen" ["names", "value"] (spSeenE K) := calx_is_seen W
  have CE : Cal P w K mg base (L2.CX P w) 7 "explains" ["names", "wants", "seen"] (spWhyE K) := calx_explains W
  have CG : Cal P w K mg base (L2.CX P w) 8 "greatest_wants" ["names", "seen"] (spNSE K) := calx_greatest_wants W
  have C_law_bad_names : Cal P w K mg base CX0 1 "_law_bad_names" [] (spBadN K) := cal_law_bad_names Z
  have C_law_bad_seen : Cal P w K mg base CX0 1 "_law_bad_seen" ["_law_names"] (spBadS K) := cal_law_bad_seen Z
  have bF : Binds K fd ["_law_script"] [] := F.bindsN (fun _ _ _ _ _ _ us hl => match us, hl with | [_], _ => rfl)
  have bT : Binds K fT ["_law_call"] [] := FT.bindsN (fun _ _ _ _ _ _ us hl => match us, hl with | [_], _ => rfl)
  obtain ⟨oc, od, dV, kV, doc, pm, an, cdT, ct, osl, rfl, lkT, cgT, _, _⟩ := FT.ex
  obtain ⟨fB, bB, FB⟩ := C_law_bad_names.ex
  refine ⟨fd, FnG.of F sc_law bF (fun vs H Q h => ?_) (fun cdv A outer s H vs Q hcd gu0 hr h => ?_), bF⟩
  · obtain ⟨a, ns, rfl, _⟩ := h
    rfl
  · obtain ⟨a, ns, rfl, ha, tabs, k⟩ := h
    have ecd := code_lam (W.x.lam (y := "law") (by simp [lamD])) hcd
    subst ecd
    have un := hr.un
    have gu : (A.deeper (envOfC "law" (defScope s_law) s.heap.objs.size (He.ga K "law") (.ref (lamC K "law")))).guards = some [] := gu0
    have room : (A.deeper (envOfC "law" (defScope s_law) s.heap.objs.size (He.ga K "law") (.ref (lamC K "law")))).units + 90 < cLine := by omega
    have hcode : (cxOf C8.CX0 P w K mg base ["_law_script", "_law_k", "_law_pool_here", "_law_names", "_law_odd", "_law_seen"] "law" (defScope s_law) (He.ga K "law") (.ref (lamC K "law")) A outer s H C8.E0).nox.env.code = .ref (lamC K "law") := rfl
    refine ⟨_, (pss_cons (ps_for PassesOwn.never rfl (pi_range1 (by rfl) Z.b_range (pa_cons (pe_callB (call_max2 rfl) (by rfl) Z.b_max PyProof.Rows.boot_max (pa_cons pe_int (pa_cons (pe_callB (call_min2 rfl) (by rfl) Z.b_min PyProof.Rows.boot_min (pa_cons pe_int (pa_cons (pe_callB call_len (by rfl) Z.b_len PySem.boot_len (pa_cons (pv 0) pa_nil)) pa_nil))) pa_nil))) pa_nil)) (pg_name (i := 1) sc_law.nd rfl (Or.inl rfl)) (pss_cons (ps_set (i := 2) sc_law.nd rfl (Or.inl rfl) (pe_cal C_law_pool (hr.mono (by decide)) (by rfl) pass0 (pa_cons (pv 0) (pa_cons (pv 1) pa_nil))))
      (pss_cons (ps_set (i := 3) sc_law.nd rfl (Or.inr rfl) (pe_cal C_law_told_names (hr.mono (by decide)) (by rfl) pass0 (pa_cons (pv 2) (pa_cons pe_int pa_nil))))
      (pss_cons (ps_set (i := 5) sc_law.nd rfl (Or.inr rfl) (pe_cal C_law_answers (hr.mono (by decide)) (by rfl) pass0 (pa_cons (pv 2) (pa_cons (pv 3) (pa_cons (pe_cal C_law_take (hr.mono (by decide)) (by rfl) pass0 (pa_cons (pv 2) (pa_cons pe_int pa_nil))) pa_nil)))))
      (pss_cons (ps_if (PW.pt (pw_or (pt_not (pt_val (pe_cal C_is_seen (hr.mono (by decide)) (by rfl) pass0 (pa_cons (pv 3) (pa_cons (pv 5) pa_nil))))) (pw_or (pt_not (pt_val (pe_cal C_is_seen (hr.mono (by decide)) (by rfl) pass0 (pa_cons (pe_callTy call_list_of (by rfl) Z.b_list PyProof.Rows.boot_list (pa_cons (pv 3) pa_nil)) (pa_cons (pe_callTy call_tuple_of (by rfl) Z.b_tuple PyProof.Rows.boot_tuple (pa_cons (pv 5) pa_nil)) pa_nil))))) (pw_or1 (pt_not (pt_val (pe_cal C_is_seen (hr.mono (by decide)) (by rfl) pass0 (pa_cons (pv 3) (pa_cons (pe_lst pa_nil) pa_nil))))))))) (pss_one (ps_ret pe_bl)) pss_nil)
      (pss_cons (ps_for PassesOwn.never rfl (pi_seq (pe_call0 FB (hr.mono (by decide)) (by rfl) C_law_bad_names.gm C_law_bad_names.kp bB .nil pass0)) (pg_name (i := 4) sc_law.nd rfl (Or.inr rfl)) (pss_cons (ps_if (pt_cmpR (op_neD hr.units) (pe_callG FA gu (hr.mono (by decide)) (by rfl) Z.g_law_all_refused KA (pa_cons (pv 4) (pa_cons pe_non (pa_cons pe_non pa_nil)))) (pe_op op_rep (pe_lst (pa_cons (pe_lst (pa_cons pe_str (pa_cons (pe_callB (show CallR _ _ (rRp K) from call_rp gu (room70 hr)) (by rfl) Z.b_repr PyProof.Rows.boot_repr (pa_cons (pv 4) pa_nil)) pa_nil))) pa_nil)) pe_int) (nomark _)) (pss_one (ps_ret pe_bl)) pss_nil)
      (pss_cons (ps_if (pt_cmpR (op_neD hr.units) (LamX.pe_lamcall (k := 11) (T := tabT K) (TT := TC K) (by rfl) Z.g_law_caught FT.kp lkT cgT bT sc_law_caught rfl (Or.inl rfl) (caught_gives W gu (by exact room)) TB hcode (List.mem_cons_of_mem _ List.mem_cons_self) (tab_l W.x) (hr.mono (by decide)) (show LamX.LamS (defScope s_law) _ from LamX.lamS_by (by decide +kernel)) rfl (fun _ _ _ _ _ => rfl) (fun A outer s H E f c2 hr2 => (pe_calK CS ⟨rfl, rfl, rfl, rfl, rfl⟩ (hr2.mono (by decide)) (by rfl) (pass_up (takes_of rfl rfl rfl rfl)) (pa_cons (pv 4) (pa_cons (pv 5) pa_nil))))) (pe_lst (pa_cons pe_str (pa_cons (pe_callB (show CallR _ _ (rRp K) from call_rp gu (room70 hr)) (by rfl) Z.b_repr PyProof.Rows.boot_repr (pa_cons (pv 4) pa_nil)) pa_nil))) (nomark _)) (pss_one (ps_ret pe_bl)) pss_nil)
      (pss_cons (ps_if (pt_cmpR (op_neD hr.units) (LamX.pe_lamcall (k := 11) (T := tabT K) (TT := TC K) (by rfl) Z.g_law_caught FT.kp lkT cgT bT sc_law_caught rfl (Or.inl rfl) (caught_gives W gu (by exact room)) TB hcode (List.mem_cons_of_mem _ List.mem_cons_self) (tab_l W.x) (hr.mono (by decide)) (show LamX.LamS (defScope s_law) _ from LamX.lamS_by (by decide +kernel)) rfl (fun _ _ _ _ _ => rfl) (fun A outer s H E f c2 hr2 => (pe_calK CE ⟨rfl, rfl, rfl, rfl, rfl⟩ (hr2.mono (by decide)) (by rfl) (pass_up (takes_of rfl rfl rfl rfl)) (pa_cons (pv 4) (pa_cons pe_non (pa_cons pe_non pa_nil)))))) (pe_lst (pa_cons pe_str (pa_cons (pe_callB (show CallR _ _ (rRp K) from call_rp gu (room70 hr)) (by rfl) Z.b_repr PyProof.Rows.boot_repr (pa_cons (pv 4) pa_nil)) pa_nil))) (nomark _)) (pss_one (ps_ret pe_bl)) pss_nil)
      (pss_one (ps_if (pt_cmpR (op_neD hr.units) (LamX.pe_lamcall (k := 11) (T := tabT K) (TT := TC K) (by rfl) Z.g_law_caught FT.kp lkT cgT bT sc_law_caught rfl (Or.inl rfl) (caught_gives W gu (by exact room)) TB hcode (List.mem_cons_of_mem _ List.mem_cons_self) (tab_l W.x) (hr.mono (by decide)) (show LamX.LamS (defScope s_law) _ from LamX.lamS_by (by decide +kernel)) rfl (fun _ _ _ _ _ => rfl) (fun A outer s H E f c2 hr2 => (pe_calK CG ⟨rfl, rfl, rfl, rfl, rfl⟩ (hr2.mono (by decide)) (by rfl) (pass_up (takes_of rfl rfl rfl rfl)) (pa_cons (pv 4) (pa_cons pe_non pa_nil))))) (pe_lst (pa_cons pe_str (pa_cons (pe_callB (show CallR _ _ (rRp K) from call_rp gu (room70 hr)) (by rfl) Z.b_repr PyProof.Rows.boot_repr (pa_cons (pv 4) pa_nil)) pa_nil))) (nomark _)) (pss_one (ps_ret pe_bl)) pss_nil))))))
      (pss_cons (ps_for PassesOwn.never rfl (pi_seq (pe_cal C_law_bad_seen (hr.mono (by decide)) (by rfl) pass0 (pa_cons (pv 3) pa_nil))) (pg_name (i := 4) sc_law.nd rfl (Or.inr rfl)) (pss_cons (ps_if (PW.pt (pw_or (pt_val (pe_cal CN (hr.mono (by decide)) (by rfl) pass0 (pa_cons (pv 3) (pa_cons (pv 4) pa_nil)))) (pw_or1 (pt_cmpR (op_neD hr.units) (pe_callG FA gu (hr.mono (by decide)) (by rfl) Z.g_law_all_refused KA (pa_cons (pv 3) (pa_cons (pv 4) (pa_cons pe_non pa_nil)))) (pe_op op_rep (pe_lst (pa_cons (pe_lst (pa_cons pe_str (pa_cons (pe_callB (show CallR _ _ (rRp K) from call_rp gu (room70 hr)) (by rfl) Z.b_repr PyProof.Rows.boot_repr (pa_cons (pv 4) pa_nil)) pa_nil))) pa_nil)) pe_int) (nomark _))))) (pss_one (ps_ret pe_bl)) pss_nil)
      (pss_cons (ps_if (pt_cmpR (op_neD hr.units) (LamX.pe_lamcall (k := 11) (T := tabT K) (TT := TC K) (by rfl) Z.g_law_caught FT.kp lkT cgT bT sc_law_caught rfl (Or.inl rfl) (caught_gives W gu (by exact room)) TB hcode (List.mem_cons_of_mem _ List.mem_cons_self) (tab_l W.x) (hr.mono (by decide)) (show LamX.LamS (defScope s_law) _ from LamX.lamS_by (by decide +kernel)) rfl (fun _ _ _ _ _ => rfl) (fun A outer s H E f c2 hr2 => (pe_calK CE ⟨rfl, rfl, rfl, rfl, rfl⟩ (hr2.mono (by decide)) (by rfl) (pass_up (takes_of rfl rfl rfl rfl)) (pa_cons (pv 3) (pa_cons pe_non (pa_cons (pv 4) pa_nil)))))) (pe_lst (pa_cons pe_str (pa_cons (pe_callB (show CallR _ _ (rRp K) from call_rp gu (room70 hr)) (by rfl) Z.b_repr PyProof.Rows.boot_repr (pa_cons (pv 4) pa_nil)) pa_nil))) (nomark _)) (pss_one (ps_ret pe_bl)) pss_nil)
      (pss_one (ps_if (pt_cmpR (op_neD hr.units) (LamX.pe_lamcall (k := 11) (T := tabT K) (TT := TC K) (by rfl) Z.g_law_caught FT.kp lkT cgT bT sc_law_caught rfl (Or.inl rfl) (caught_gives W gu (by exact room)) TB hcode (List.mem_cons_of_mem _ List.mem_cons_self) (tab_l W.x) (hr.mono (by decide)) (show LamX.LamS (defScope s_law) _ from LamX.lamS_by (by decide +kernel)) rfl (fun _ _ _ _ _ => rfl) (fun A outer s H E f c2 hr2 => (pe_calK CG ⟨rfl, rfl, rfl, rfl, rfl⟩ (hr2.mono (by decide)) (by rfl) (pass_up (takes_of rfl rfl rfl rfl)) (pa_cons (pv 3) (pa_cons (pv 4) pa_nil))))) (pe_lst (pa_cons pe_str (pa_cons (pe_callB (show CallR _ _ (rRp K) from call_rp gu (room70 hr)) (by rfl) Z.b_repr PyProof.Rows.boot_repr (pa_cons (pv 4) pa_nil)) pa_nil))) (nomark _)) (pss_one (ps_ret pe_bl)) pss_nil)))))
      (pss_one (ps_for PassesOwn.never rfl (pi_seq (pe_lst (pa_cons pe_non (pa_cons pe_int (pa_cons pe_str (pa_cons pe_str (pa_cons (pe_tup (pa_cons (pe_ix ix_tup (pv 3) pe_int (fun _ _ => rfl)) pa_nil)) (pa_cons (pe_lst (pa_cons (pe_ix ix_tup (pv 3) pe_int (fun _ _ => rfl)) pa_nil)) pa_nil)))))))) (pg_name (i := 4) sc_law.nd rfl (Or.inr rfl)) (pss_one (ps_if (pt_cmpR (op_neD hr.units) (pe_callG FA gu (hr.mono (by decide)) (by rfl) Z.g_law_all_refused KA (pa_cons (pv 3) (pa_cons (pv 5) (pa_cons (pv 4) pa_nil)))) (pe_op op_rep (pe_lst (pa_cons (pe_lst (pa_cons pe_str (pa_cons (pe_callB (show CallR _ _ (rRp K) from call_rp gu (room70 hr)) (by rfl) Z.b_repr PyProof.Rows.boot_repr (pa_cons (pv 4) pa_nil)) pa_nil))) pa_nil)) pe_int) (nomark _)) (pss_one (ps_ret pe_bl)) pss_nil)))))))))))
      (pss_one (ps_ret pe_bl))), ?_⟩
    refine for_rng_by (fun n H' => 0 ≤ n ∧ n ≤ 10 ∧ H' = H) (fun Q kQ => ?_) ?_
    · refine ⟨_, rfl, _, (ns.map V.int).length, rfl, .inl ⟨_, ha, rfl⟩, _, _, rfl, _, _, rfl, kQ _ _ ⟨?_, ?_, rfl⟩⟩
      · split <;> split <;> omega
      · split <;> split <;> omega
    rintro n H' ⟨n0, n1, rfl⟩
    refine ⟨by omega, by omega, fun i σ G => ∃ s1 s2 s3 s4 s5 : Option V, σ = [some (.ref a), s1, s2, s3, s4, s5] ∧ ExtN H' G ∧ Tabs (tabT K) G, ⟨none, none, none, none, none, rfl, ExtN.refl _, tabs⟩, ?_, ?_⟩
    · rintro i σ G0 hi ⟨s1, s2, s3, s4, s5, rfl, e0, u0⟩
      have ha0 := xn_sqL e0 ha
      -- the pool, the names, the answers
      refine ⟨_, rfl, _, rfl, a, ns, _, rfl, ha0, by omega, by omega, fun p G1 np s01 pool1 => ?_⟩
      refine ⟨_, rfl, p, 4, rfl, pool1, by decide, by decide, fun na nms G2 fna a2 hna2 nt _ => ?_⟩
      obtain ⟨nm, l4⟩ := nt.nm
      refine ⟨_, rfl, _, rfl, _, rfl, p, 6, rfl, a2.pool, by decide, by decide, fun m G3 m0 m1 a3 => ?_⟩
      have nap : na ≠ p := pool1.ne fna
      have hna3 := a3.keep _ _ nap hna2
      refine ⟨p, na, nms, m, rfl, a3.pool, hna3, nt, m0, by omega, fun sa xs as G4 fsa a4 hsa ps okA la => ?_⟩
      have hna := a4.keep _ _ nap hna3
      have s04 : Same G0 G4 := fun b o h => a4.keep b o (ne_of_none h np) (a3.keep b o (ne_of_none h np) (a2.keep b o (ne_of_none h np) (s01 b o h)))
      have eH4 := e0.trans (ExtN.of s04)
      have u4 := u0.ext s04
      have td : Told K G4 na nms sa as := ⟨.tup hna, nm, ⟨xs, .lst hsa, ps⟩, okA, by omega⟩
      clear a2 a3 a4 s01 pool1 hna2 hna3 fna fsa np ha0 e0 nap s04
      -- right answers are seen
      refine ⟨_, rfl, _, rfl, na, nms, sa, as, rfl, td, fun G5 s5' => ⟨_, rfl, ifF rfl ?_⟩⟩
      refine ⟨_, rfl, na, _, rfl, .inr (SqT.of (s5' _ _ hna)), fun nl nnl => ⟨_, rfl, sa, xs, rfl, .inl ⟨SqL.of (Same.new nnl _ _ (s5' _ _ hsa)), fun nt' nnt => ?_⟩⟩⟩
      have s6' : Same G4 (upd (upd G5 nl (.lst (nms.map V.str))) nt' (.tup xs)) := s5'.trans ((Same.new nnl).trans (Same.new nnt))
      have hnl : (upd (upd G5 nl (.lst (nms.map V.str))) nt' (.tup xs)) nl = some (.lst (nms.map V.str)) := Same.new nnt _ _ upd_same
      have hnt : (upd (upd G5 nl (.lst (nms.map V.str))) nt' (.tup xs)) nt' = some (.tup xs) := upd_same
      have td6 : Told K (upd (upd G5 nl (.lst (nms.map V.str))) nt' (.tup xs)) nl nms nt' as := ⟨.lst hnl, nm, ⟨xs, .tup hnt, paired_mono (fun x w q => ant_mono _ _ _ _ (Tk.of s6') q) ps⟩, okA, by omega⟩
      generalize upd (upd G5 nl (.lst (nms.map V.str))) nt' (.tup xs) = G6 at s6' td6 ⊢
      refine ⟨nl, nms, nt', as, rfl, td6, fun G7 s7' => ⟨_, rfl, ifF rfl ?_⟩⟩
      have s47 := s6'.trans s7'
      refine ⟨_, rfl, Nat.zero_le _, fun e0 ne0 => ?_⟩
      have s48 := s47.trans (Same.new (o := .lst []) ne0)
      have he0 : (upd G7 e0 (.lst [])) e0 = some (.lst []) := upd_same
      generalize upd G7 e0 (.lst []) = G8 at s48 he0 ⊢
      have td8 : Told K G8 na nms e0 [] := ⟨.tup (s48 _ _ hna), nm, ⟨[], .lst he0, .nil⟩, (fun _ h => nomatch h), by decide⟩
      refine ⟨na, nms, e0, [], rfl, td8, fun G9 s9' => ⟨_, rfl, ifF rfl ?_⟩⟩
      have s49 := s48.trans s9'
      have e9 := eH4.trans (ExtN.of s49)
      have u9 := u4.ext s49
      have hna9 := s49 _ _ hna
      have td9 := td.same s49
      clear s49 s48 he0 td8 s9' s47 s7' td6 s6' hnl hnt s5' eH4 u4 hsa ps td ne0 nnl nnt
      -- odd names
      refine ⟨rfl, fun zl ys Ga sa' hzl allN lz => ?_⟩
      have ea := e9.trans (ExtN.of sa')
      have ua := u9.ext sa'
      have hnaA := sa' _ _ hna9
      have tdA := td9.same sa'
      refine ⟨zl, rfl, .inl ⟨⟨_, SqL.of hzl⟩, ?_⟩⟩
      refine for_list (K := K) (a := zl) (xs := ys) (fun j σ Gh => ∃ z1 z4 : Option V, σ = [some (.ref a), z1, some (.ref p), some (.ref na), z4, some (.ref sa)] ∧ ExtN Ga Gh ∧ Tabs (tabT K) Gh) ⟨_, _, rfl, ExtN.refl _, ua⟩ (fun j σ Gh _ ⟨_, _, _, e, _⟩ => SqL.of (xn_lst e hzl)) ?_ ?_
      · rintro j y σ Gh hj ⟨z1, z4, rfl, eh, uh⟩
        obtain ⟨bad, t, rp, tok⟩ := allN y (List.mem_of_getElem? hj)
        have ly3 := lay_three (w := "skill") words_ok.1 tok
        have ly1 := lay_pair (w := "skill") words_ok.1 tok
        refine ⟨_, rfl, y, .non, .non, "NoSkill", "skill", "skill", y, t, rfl, .inl ⟨rfl, rfl, rfl⟩, .ns (.names (bad.xn eh)), rp.xn eh, uh, fun L G1 e1 u1 th => ?_⟩
        refine ⟨_, rfl, y, t, rfl, rp.xn (eh.trans e1), (by show 2 ≤ sizeLine; decide), fun l1 nl1 => ?_⟩
        have r1 := Same.new (o := .lst [.str "skill", .str t]) nl1
        have h1 : (upd G1 l1 (.lst [.str "skill", .str t])) l1 = some (.lst [.str "skill", .str t]) := upd_same
        have th := th.same r1
        have u1 := u1.ext r1
        have e1 := e1.trans (ExtN.of r1)
        generalize upd G1 l1 (.lst [.str "skill", .str t]) = G1 at r1 h1 th u1 e1 ⊢
        refine ⟨(by show 1 ≤ sizeLine; decide), fun l2 nl2 => ?_⟩
        have r2 := Same.new (o := .lst [.ref l1]) nl2
        have h2 : (upd G1 l2 (.lst [.ref l1])) l2 = some (.lst [.ref l1]) := upd_same
        have th := th.same r2
        have u1 := u1.ext r2
        have h1 := r2 _ _ h1
        have e1 := e1.trans (ExtN.of r2)
        generalize upd G1 l2 (.lst [.ref l1]) = G1 at r2 h1 h2 th u1 e1 ⊢
        refine ⟨l2, 3, _, rfl, rfl, h2, by decide, by decide, (by rw [sizeLine_eq]; show 1 * 3 ≤ 16777216; decide), fun l3 nl3 => ?_⟩
        have r3 := Same.new (o := .lst (List.replicate (3 : Int).toNat [V.ref l1]).flatten) nl3
        have h3 : (upd G1 l3 (.lst (List.replicate (3 : Int).toNat [V.ref l1]).flatten)) l3 = some (.lst [.ref l1, .ref l1, .ref l1]) := upd_same
        have th := th.same r3
        have u1 := u1.ext r3
        have h1 := r3 _ _ h1
        have e1 := e1.trans (ExtN.of r3)
        generalize upd G1 l3 (.lst (List.replicate (3 : Int).toNat [V.ref l1]).flatten) = G1 at r3 h1 h3 th u1 e1 ⊢
        refine ⟨_, _, dp_three th, dp_three ⟨l1, l1, l1, h3, h1, h1, h1⟩, ly3.shaped (by decide), ly3.shaped (by decide), ?_⟩
        rw [SeqAt.eqv_refl _ ly3.1]
        refine ⟨_, rfl, ifF rfl ?_⟩
        refine ⟨u1, fun G e u => ?_⟩
        have e2 := (eh.trans e1).trans e
        refine ⟨_, rfl, _, rfl, y, .ref sa, rfl, bad.xn e2, told_made (.inl ⟨rfl, rfl, rfl⟩) (rp.xn e2) fun L1 G2 s2 hL => ?_⟩
        have e3 := e2.trans (ExtN.of s2)
        have u2 := u.ext s2
        refine ⟨_, rfl, y, t, rfl, rp.xn e3, (by show 2 ≤ sizeLine; decide), fun l1 nl1 => ?_⟩
        have r1 := Same.new (o := .lst [.str "skill", .str t]) nl1
        have h1 : (upd G2 l1 (.lst [.str "skill", .str t])) l1 = some (.lst [.str "skill", .str t]) := upd_same
        have hL := r1 _ _ hL
        have u2 := u2.ext r1
        have e3 := e3.trans (ExtN.of r1)
        generalize upd G2 l1 (.lst [.str "skill", .str t]) = G2 at r1 h1 hL u2 e3 ⊢
        refine ⟨_, _, dp_pair hL, dp_pair h1, ly1.shaped (by decide), ly1.shaped (by decide), ?_⟩
        rw [SeqAt.eqv_refl _ ly1.1]
        refine ⟨_, rfl, ifF rfl ?_⟩
        clear r1 h1 hL nl1 s2
        refine ⟨u2, fun G e u => ?_⟩
        have e2 := e3.trans e
        refine ⟨_, rfl, y, .non, .non, _, _, y, rfl, .names (bad.xn e2), told_made (.inl ⟨rfl, rfl, rfl⟩) (rp.xn e2) fun L1 G2 s2 hL => ?_⟩
        have e3 := e2.trans (ExtN.of s2)
        have u2 := u.ext s2
        refine ⟨_, rfl, y, t, rfl, rp.xn e3, (by show 2 ≤ sizeLine; decide), fun l1 nl1 => ?_⟩
        have r1 := Same.new (o := .lst [.str "skill", .str t]) nl1
        have h1 : (upd G2 l1 (.lst [.str "skill", .str t])) l1 = some (.lst [.str "skill", .str t]) := upd_same
        have hL := r1 _ _ hL
        have u2 := u2.ext r1
        have e3 := e3.trans (ExtN.of r1)
        generalize upd G2 l1 (.lst [.str "skill", .str t]) = G2 at r1 h1 hL u2 e3 ⊢
        refine ⟨_, _, dp_pair hL, dp_pair h1, ly1.shaped (by decide), ly1.shaped (by decide), ?_⟩
        rw [SeqAt.eqv_refl _ ly1.1]
        refine ⟨_, rfl, ifF rfl ?_⟩
        clear r1 h1 hL nl1 s2
        refine ⟨u2, fun G e u => ?_⟩
        have e2 := e3.trans e
        refine ⟨_, rfl, y, .non, _, _, y, rfl, .names (bad.xn e2), told_made (.inl ⟨rfl, rfl, rfl⟩) (rp.xn e2) fun L1 G2 s2 hL => ?_⟩
        have e3 := e2.trans (ExtN.of s2)
        have u2 := u.ext s2
        refine ⟨_, rfl, y, t, rfl, rp.xn e3, (by show 2 ≤ sizeLine; decide), fun l1 nl1 => ?_⟩
        have r1 := Same.new (o := .lst [.str "skill", .str t]) nl1
        have h1 : (upd G2 l1 (.lst [.str "skill", .str t])) l1 = some (.lst [.str "skill", .str t]) := upd_same
        have hL := r1 _ _ hL
        have u2 := u2.ext r1
        have e3 := e3.trans (ExtN.of r1)
        generalize upd G2 l1 (.lst [.str "skill", .str t]) = G2 at r1 h1 hL u2 e3 ⊢
        refine ⟨_, _, dp_pair hL, dp_pair h1, ly1.shaped (by decide), ly1.shaped (by decide), ?_⟩
        rw [SeqAt.eqv_refl _ ly1.1]
        refine ⟨_, rfl, ifF rfl ?_⟩
        clear r1 h1 hL nl1 s2
        exact ⟨_, _, rfl, e3, u2⟩
      rintro σ Gb ⟨z1, z4, rfl, eb, ub⟩
      have hnaB := eb _ _ hnaA (fun _ z => by cases z)
      have tdB := tdA.xn eb
      have eB := ea.trans eb
      clear allN hzl lz hnaA tdA ea ua eb sa'
      -- odd answers
      refine ⟨_, rfl, na, nms, rfl, hnaB, nt, fun zs ys Gc sc' hzs allS lz => ?_⟩
      have ec := eB.trans (ExtN.of sc')
      have uc := ub.ext sc'
      have hnaC := sc' _ _ hnaB
      have tdC := tdB.same sc'
      refine ⟨zs, rfl, .inl ⟨⟨_, SqL.of hzs⟩, ?_⟩⟩
      refine for_list (K := K) (a := zs) (xs := ys) (fun j σ Gh => ∃ z1 z4 : Option V, σ = [some (.ref a), z1, some (.ref p), some (.ref na), z4, some (.ref sa)] ∧ ExtN Gc Gh ∧ Tabs (tabT K) Gh) ⟨_, _, rfl, ExtN.refl _, uc⟩ (fun j σ Gh _ ⟨_, _, _, e, _⟩ => SqL.of (xn_lst e hzs)) ?_ ?_
      · rintro j y σ Gh hj ⟨z1, z4, rfl, eh, uh⟩
        obtain ⟨bad, t, rp, tok⟩ := allS y (List.mem_of_getElem? hj)
        have ly3 := lay_three (w := "seen") words_ok.2 tok
        have ly1 := lay_pair (w := "seen") words_ok.2 tok
        have ltn : ∀ {G}, ExtN Gc G → Lt K G na (nms.map V.str) := fun {G} e => .tup (e _ _ hnaC fun _ z => by cases z)
        refine ⟨_, rfl, _, rfl, na, nms, y, rfl, ltn eh, nm, bad.xn eh, fun Gi si => ⟨_, rfl, ifF rfl ?_⟩⟩
        have eh := eh.trans (ExtN.of si)
        have uh := uh.ext si
        refine ⟨_, rfl, _, rfl, .ref na, y, .non, "NoSeen", "seen", "seen", y, t, rfl, .inr ⟨rfl, rfl, rfl⟩, .ns (.seen (ltn eh) nm (bad.xn eh)), rp.xn eh, uh, fun L G1 e1 u1 th => ?_⟩
        refine ⟨_, rfl, y, t, rfl, rp.xn (eh.trans e1), (by show 2 ≤ sizeLine; decide), fun l1 nl1 => ?_⟩
        have r1 := Same.new (o := .lst [.str "seen", .str t]) nl1
        have h1 : (upd G1 l1 (.lst [.str "seen", .str t])) l1 = some (.lst [.str "seen", .str t]) := upd_same
        have th := th.same r1
        have u1 := u1.ext r1
        have e1 := e1.trans (ExtN.of r1)
        generalize upd G1 l1 (.lst [.str "seen", .str t]) = G1 at r1 h1 th u1 e1 ⊢
        refine ⟨(by show 1 ≤ sizeLine; decide), fun l2 nl2 => ?_⟩
        have r2 := Same.new (o := .lst [.ref l1]) nl2
        have h2 : (upd G1 l2 (.lst [.ref l1])) l2 = some (.lst [.ref l1]) := upd_same
        have th := th.same r2
        have u1 := u1.ext r2
        have h1 := r2 _ _ h1
        have e1 := e1.trans (ExtN.of r2)
        generalize upd G1 l2 (.lst [.ref l1]) = G1 at r2 h1 h2 th u1 e1 ⊢
        refine ⟨l2, 3, _, rfl, rfl, h2, by decide, by decide, (by rw [sizeLine_eq]; show 1 * 3 ≤ 16777216; decide), fun l3 nl3 => ?_⟩
        have r3 := Same.new (o := .lst (List.replicate (3 : Int).toNat [V.ref l1]).flatten) nl3
        have h3 : (upd G1 l3 (.lst (List.replicate (3 : Int).toNat [V.ref l1]).flatten)) l3 = some (.lst [.ref l1, .ref l1, .ref l1]) := upd_same
        have th := th.same r3
        have u1 := u1.ext r3
        have h1 := r3 _ _ h1
        have e1 := e1.trans (ExtN.of r3)
        generalize upd G1 l3 (.lst (List.replicate (3 : Int).toNat [V.ref l1]).flatten) = G1 at r3 h1 h3 th u1 e1 ⊢
        refine ⟨_, _, dp_three th, dp_three ⟨l1, l1, l1, h3, h1, h1, h1⟩, ly3.shaped (by decide), ly3.shaped (by decide), ?_⟩
        rw [SeqAt.eqv_refl _ ly3.1]
        refine ⟨_, rfl, ifF rfl ?_⟩
        refine ⟨u1, fun G e u => ?_⟩
        have e2 := (eh.trans e1).trans e
        refine ⟨_, rfl, _, rfl, .ref na, .non, y, _, _, y, rfl, .seen (ltn e2) nm (bad.xn e2), told_made (.inr ⟨rfl, rfl, rfl⟩) (rp.xn e2) fun L1 G2 s2 hL => ?_⟩
        have e3 := e2.trans (ExtN.of s2)
        have u2 := u.ext s2
        refine ⟨_, rfl, y, t, rfl, rp.xn e3, (by show 2 ≤ sizeLine; decide), fun l1 nl1 => ?_⟩
        have r1 := Same.new (o := .lst [.str "seen", .str t]) nl1
        have h1 : (upd G2 l1 (.lst [.str "seen", .str t])) l1 = some (.lst [.str "seen", .str t]) := upd_same
        have hL := r1 _ _ hL
        have u2 := u2.ext r1
        have e3 := e3.trans (ExtN.of r1)
        generalize upd G2 l1 (.lst [.str "seen", .str t]) = G2 at r1 h1 hL u2 e3 ⊢
        refine ⟨_, _, dp_pair hL, dp_pair h1, ly1.shaped (by decide), ly1.shaped (by decide), ?_⟩
        rw [SeqAt.eqv_refl _ ly1.1]
        refine ⟨_, rfl, ifF rfl ?_⟩
        clear r1 h1 hL nl1 s2
        refine ⟨u2, fun G e u => ?_⟩
        have e2 := e3.trans e
        refine ⟨_, rfl, _, rfl, .ref na, y, _, _, y, rfl, .seen (ltn e2) nm (bad.xn e2), told_made (.inr ⟨rfl, rfl, rfl⟩) (rp.xn e2) fun L1 G2 s2 hL => ?_⟩
        have e3 := e2.trans (ExtN.of s2)
        have u2 := u.ext s2
        refine ⟨_, rfl, y, t, rfl, rp.xn e3, (by show 2 ≤ sizeLine; decide), fun l1 nl1 => ?_⟩
        have r1 := Same.new (o := .lst [.str "seen", .str t]) nl1
        have h1 : (upd G2 l1 (.lst [.str "seen", .str t])) l1 = some (.lst [.str "seen", .str t]) := upd_same
        have hL := r1 _ _ hL
        have u2 := u2.ext r1
        have e3 := e3.trans (ExtN.of r1)
        generalize upd G2 l1 (.lst [.str "seen", .str t]) = G2 at r1 h1 hL u2 e3 ⊢
        refine ⟨_, _, dp_pair hL, dp_pair h1, ly1.shaped (by decide), ly1.shaped (by decide), ?_⟩
        rw [SeqAt.eqv_refl _ ly1.1]
        refine ⟨_, rfl, ifF rfl ?_⟩
        clear r1 h1 hL nl1 s2
        exact ⟨_, _, rfl, e3, u2⟩
      rintro σ Gd ⟨z1, z4, rfl, ed, ud⟩
      have hnaD := ed _ _ hnaC (fun _ z => by cases z)
      have tdD := tdC.xn ed
      have eD := ec.trans ed
      clear allS hzs lz hnaC tdC ec uc ed sc' hnaB tdB eB ub
      -- odd skills
      have gc := nt.goodC
      obtain ⟨n0', ns1, rfl⟩ : ∃ n0 ns1, nms = n0 :: ns1 := by
        cases nms with
        | nil => exact absurd nm.ge (by decide)
        | cons n0 ns1 => exact ⟨n0, ns1, rfl⟩
      obtain ⟨gc1, gc2⟩ := He.ba (show (_ && _) = true from gc)
      obtain ⟨gt, gl⟩ := He.ba gc1
      obtain ⟨gn, ge⟩ := He.ba gc2
      rw [Bool.not_eq_true'] at gn ge
      have at0 : atI ((n0' :: ns1).map V.str) 0 = some (.str n0') := at_of (j := 0) rfl rfl
      refine ⟨_, rfl, na, _, 0, _, rfl, rfl, SqT.of hnaD, at0, (by show 1 ≤ sizeLine; decide), fun x1 f1 => ?_⟩
      have q1 := Same.new (o := .tup [.str n0']) f1
      have g1 : (upd Gd x1 (.tup [.str n0'])) x1 = some (.tup [.str n0']) := upd_same
      generalize upd Gd x1 (.tup [.str n0']) = Ge at q1 g1 ⊢
      refine ⟨_, rfl, na, _, 0, _, rfl, rfl, SqT.of (q1 _ _ hnaD), at0, (by show 1 ≤ sizeLine; decide), fun x2 f2 => ?_⟩
      have q2 := Same.new (o := .lst [.str n0']) f2
      have g2 : (upd Ge x2 (.lst [.str n0'])) x2 = some (.lst [.str n0']) := upd_same
      have g1 := q2 _ _ g1
      generalize upd Ge x2 (.lst [.str n0']) = Gf at q2 g1 g2 ⊢
      refine ⟨(by show 6 ≤ sizeLine; decide), fun zz fz => ?_⟩
      have q3 := Same.new (o := .lst [.non, .int 5, .str "nobody", .str "", .ref x1, .ref x2]) fz
      have hzz : (upd Gf zz (.lst [.non, .int 5, .str "nobody", .str "", .ref x1, .ref x2])) zz = some (.lst [.non, .int 5, .str "nobody", .str "", .ref x1, .ref x2]) := upd_same
      have g1 := q3 _ _ g1
      have g2 := q3 _ _ g2
      generalize upd Gf zz (.lst [.non, .int 5, .str "nobody", .str "", .ref x1, .ref x2]) = Gg at q3 g1 g2 hzz ⊢
      have sDg := (q1.trans q2).trans q3
      have tdG := tdD.same sDg
      have eG := eD.trans (ExtN.of sDg)
      have uG := ud.ext sDg
      have allZ : ∀ y ∈ [V.non, .int 5, .str "nobody", .str "", .ref x1, .ref x2], ItZ K Gg (n0' :: ns1) y := by
        intro y hy
        simp only [List.mem_cons, List.not_mem_nil, or_false] at hy
        rcases hy with rfl | rfl | rfl | rfl | rfl | rfl
        · exact ⟨⟨_, .non⟩, rfl, Tl.of .non (by decide +kernel)⟩
        · exact ⟨⟨_, .int _⟩, rfl, Tl.of (.int 5) (by decide +kernel)⟩
        · exact ⟨⟨_, .str _⟩, gn, Tl.of (.str _) (by decide +kernel)⟩
        · exact ⟨⟨_, .str _⟩, ge, Tl.of (.str _) (by decide +kernel)⟩
        · exact ⟨⟨_, .tup (SqT.of g1)⟩, rfl, Tl.of (.tup (SqT.of g1) (.cons (.str _) .nil)) gt⟩
        · exact ⟨⟨_, .lst g2⟩, rfl, Tl.of (.lst (SqL.of g2) (.cons (.str _) .nil)) gl⟩
      refine ⟨zz, rfl, .inl ⟨⟨_, SqL.of hzz⟩, ?_⟩⟩
      refine for_list (K := K) (a := zz) (xs := [V.non, .int 5, .str "nobody", .str "", .ref x1, .ref x2]) (fun j σ Gh => ∃ z1 z4 : Option V, σ = [some (.ref a), z1, some (.ref p), some (.ref na), z4, some (.ref sa)] ∧ ExtN Gg Gh ∧ Tabs (tabT K) Gh) ⟨_, _, rfl, ExtN.refl _, uG⟩ (fun j σ Gh _ ⟨_, _, _, e, _⟩ => SqL.of (xn_lst e hzz)) ?_ ?_
      · rintro j y σ Gh hj ⟨z1, z4, rfl, eh, uh⟩
        obtain ⟨⟨T, ty⟩, no, t, rp, tok⟩ := (allZ y (List.mem_of_getElem? hj)).xn eh
        have ly3 := lay_three (w := "skill") words_ok.1 tok
        refine ⟨_, rfl, _, rfl, _, rfl, .ref na, .ref sa, y, "NoSkill", "skill", "skill", y, t, rfl, .inl ⟨rfl, rfl, rfl⟩, .skill (tdG.xn eh) ty no, rp, uh, fun L G1 e1 u1 th => ?_⟩
        have rp := rp.xn (ExtN.refl _)
        refine ⟨_, rfl, y, t, rfl, rp.xn e1, (by show 2 ≤ sizeLine; decide), fun l1 nl1 => ?_⟩
        have r1 := Same.new (o := .lst [.str "skill", .str t]) nl1
        have h1 : (upd G1 l1 (.lst [.str "skill", .str t])) l1 = some (.lst [.str "skill", .str t]) := upd_same
        have th := th.same r1
        have u1 := u1.ext r1
        have e1 := e1.trans (ExtN.of r1)
        generalize upd G1 l1 (.lst [.str "skill", .str t]) = G1 at r1 h1 th u1 e1 ⊢
        refine ⟨(by show 1 ≤ sizeLine; decide), fun l2 nl2 => ?_⟩
        have r2 := Same.new (o := .lst [.ref l1]) nl2
        have h2 : (upd G1 l2 (.lst [.ref l1])) l2 = some (.lst [.ref l1]) := upd_same
        have th := th.same r2
        have u1 := u1.ext r2
        have h1 := r2 _ _ h1
        have e1 := e1.trans (ExtN.of r2)
        generalize upd G1 l2 (.lst [.ref l1]) = G1 at r2 h1 h2 th u1 e1 ⊢
        refine ⟨l2, 3, _, rfl, rfl, h2, by decide, by decide, (by rw [sizeLine_eq]; show 1 * 3 ≤ 16777216; decide), fun l3 nl3 => ?_⟩
        have r3 := Same.new (o := .lst (List.replicate (3 : Int).toNat [V.ref l1]).flatten) nl3
        have h3 : (upd G1 l3 (.lst (List.replicate (3 : Int).toNat [V.ref l1]).flatten)) l3 = some (.lst [.ref l1, .ref l1, .ref l1]) := upd_same
        have th := th.same r3
        have u1 := u1.ext r3
        have h1 := r3 _ _ h1
        have e1 := e1.trans (ExtN.of r3)
        generalize upd G1 l3 (.lst (List.replicate (3 : Int).toNat [V.ref l1]).flatten) = G1 at r3 h1 h3 th u1 e1 ⊢
        refine ⟨_, _, dp_three th, dp_three ⟨l1, l1, l1, h3, h1, h1, h1⟩, ly3.shaped (by decide), ly3.shaped (by decide), ?_⟩
        rw [SeqAt.eqv_refl _ ly3.1]
        refine ⟨_, rfl, ifF rfl ?_⟩
        exact ⟨_, _, rfl, eh.trans e1, u1⟩
      rintro σ Gi ⟨z1, z4, rfl, ei, ui⟩
      exact ⟨_, _, _, _, _, rfl, eG.trans ei, ui⟩
    · rintro σ G ⟨s1, s2, s3, s4, s5, rfl, e0, _⟩
      exact k G
end
end Rt
end
section
set_option Elab.async false
set_option linter.all false
set_option maxRecDepth 100000
set_option maxHeartbeats 4000000
/-! the end: a law whose promise is told where no repr is under way; any tables of code objects -/
namespace Rt
open PySem PySem.Spec PyProof.Rows L2
open LamX (ExtN Tabs TabB)
theorem law_end {P : Program} {w : World} {K : PySem.W.Frag} {mg mb : Str → Option Value} {k : Nat} {fa a : Addr} {TS : List (Addr × Addr)} {fd : FuncData} {x : Str} {sp : SpG} {s : Shared} {vs : List Value} {ns : List Int}
    (kin : K.In s.heap) (glob : s.heap.Ns mainGlobals mg) (bltn : s.heap.Ns builtinsNs mb) (boot : ∀ x : Str, x ≠ "__name__" → mb x = bootBuiltins x) (lim : s.heap.NoLimit) (gens : s.gens = #[])
    (tab : ∀ p ∈ TS, s.heap.get? p.2 = some { cls := .none, data := .fields #[] }) (tabK : ∀ p ∈ TS, K.lookup p.2 = none) (hd : ∀ p ∈ TS, PySem.W.CodeHd s.heap p.1 p.2)
    (bmod : ∃ (bm : Addr) (ob : Obj), mg "__builtins__" = some (.ref bm) ∧ bm ≠ builtinsNs ∧ s.heap.get? bm = some ob ∧ ob.cls = .type "module" ∧ ob.dict = some builtinsNs ∧ ob.data = .plain)
    (scr : s.heap.get? a = some { cls := .type "list", data := .seq vs.toArray }) (isI : IntsAre vs ns) (fits : ns.length ≤ sizeLine) (hr : Room k callerA)
    (F : ∀ base : Heap, K.In base → base.Ns mainGlobals mg → (∀ p ∈ TS, TabB base mg p.1 p.2) → FnG P w K mg base k fa fd [x] sp)
    (told : ∀ H : Hp, (∀ p ∈ TS, H p.2 = some (.tbl #[])) → SqL K H a (ns.map V.int) → sp [.ref a] H (fun v _ => v = .bl true)) :
    codeAny (model P w) callerA (.call (.ref fa) ⟨[.ref a], []⟩) (fun r s' => r = .ok (.ret (.bool true)) ∧ OldK s.heap s'.heap ∧ s'.os = s.os ∧ AllBare s'.gens) s := by
  have rv := vals_ints isI
  have vl := isI.length
  let isT : Addr → Prop := fun b => ∃ p ∈ TS, p.2 = b
  have tabT : ∀ {b}, isT b → s.heap.get? b = some { cls := .none, data := .fields #[] } := fun {b} ⟨p, hp, e⟩ => by
    rw [← e]
    exact tab p hp
  have tabN : ∀ {b}, isT b → K.lookup b = none := fun {b} ⟨p, hp, e⟩ => by
    rw [← e]
    exact tabK p hp
  have ne : ¬ isT a := fun z => by
    rw [tabT z] at scr
    cases scr
  obtain ⟨gO, gEs, gEp, gGet, gDat, gRest⟩ := id glob
  have nG : ¬ isT mainGlobals := fun z => by
    rw [tabT z] at gGet
    cases gGet
    cases gDat
  -- whatever is tracked: the table, and maybe the script
  have go : ∀ H : Hp, (∀ b, isT b → H b = some (.tbl #[])) → (∀ b, ¬ isT b → H b = none ∨ (b = a ∧ K.lookup a = none ∧ ∃ o ys, H b = some (.frz o (.lst ys)))) → SqL K H a (ns.map V.int) → HOk P w H s.heap →
      codeAny (model P w) callerA (.call (.ref fa) ⟨[.ref a], []⟩) (fun r s' => r = .ok (.ret (.bool true)) ∧ OldK s.heap s'.heap ∧ s'.os = s.os ∧ AllBare s'.gens) s := by
    intro H hT other sq hok
    have rest : ∀ {b : Addr} {o : Obj}, s.heap.get? b = some o → (∀ us n, o.data ≠ .seq us n) → o.data ≠ .fields #[] → (hidT s.heap H).get? b = some o := fun {b o} e n1 n2 => by
      refine hidT_get e ?_
      by_cases z : isT b
      · rw [tabT z] at e
        cases e
        exact (n2 rfl).elim
      · rcases other b z with q | ⟨q, _⟩
        · exact q
        · rw [q, scr] at e
          cases e
          exact (n1 _ _ rfl).elim
    have names : ∀ {b : Addr} {m : Str → Option Value}, s.heap.Ns b m → (hidT s.heap H).Ns b m := fun {b m} ⟨o, es, ep, e, d, r⟩ =>
      ⟨o, es, ep, rest e (fun _ _ z => by rw [d] at z; cases z) (fun z => by rw [d] at z; cases z), d, r⟩
    have bin : K.In (hidT s.heap H) := fun b o e => hidT_get (kin b o e) (by
      by_cases z : isT b
      · rw [tabN z] at e
        cases e
      · rcases other b z with q | ⟨q, q2, _⟩
        · exact q
        · rw [q, q2] at e
          cases e)
    have md : L2.Mod K mg (hidT s.heap H) := ⟨bin, names glob, ⟨mb, names bltn, boot⟩, let ⟨mc, h1, h2⟩ := lim; ⟨mc, names h1, h2⟩⟩
    have tb : ∀ p ∈ TS, TabB (hidT s.heap H) mg p.1 p.2 := by
      intro p hp
      refine ⟨?_, ?_, fun z => nG ⟨p, hp, z.symm⟩⟩
      · obtain ⟨o, us, file, tf, flags, tg, inF, text, tt, e1, r1, r2, r3, r⟩ := hd p hp
        refine ⟨o, us, file, tf, flags, tg, inF, text, tt, rest e1 (fun _ _ z => ?_) fun z => ?_, r1, r2, r3, r⟩
        · rw [r2] at z
          cases z
        · rw [r2] at z
          cases z
          simp at r3
      · obtain ⟨bm, ob, b1, b2, b3, b4, b5, b6⟩ := bmod
        refine ⟨bm, ob, b1, b2, fun q => ?_, fun q => ?_, rest b3 (fun _ _ z => ?_) fun z => ?_, b4, b5, b6⟩
        · rw [q, gGet] at b3
          cases b3
          rw [gDat] at b6
          cases b6
        · rw [q, tab p hp] at b3
          cases b3
          cases b6
        · rw [b6] at z
          cases z
        · rw [b6] at z
          cases z
    have e0 : Env0 P w K mg (hidT s.heap H) callerA [] s H := ⟨rfl, md, fun b o e => of_hidT e, Nat.le_of_eq (hidT_size _ _), trivial, fun b hb => absurd (show b ∈ ([] : List Addr) from hb) (by simp), hok, .of_eq gens⟩
    refine codeAny_mono ((F _ bin (names glob) tb).run callerA [] s H [.ref a] [.ref a] _ rfl hr e0 (.cons rfl .nil) (told H (fun p hp => hT p.2 ⟨p, hp, rfl⟩) sq)) fun r s' h => ?_
    match r, h with
    | .error e, h => exact (show False from h).elim
    | .ok .next, h => exact False.elim h
    | .ok .brk, h => exact False.elim h
    | .ok .cont, h => exact False.elim h
    | .ok (.ret u), h =>
      obtain ⟨v, H', os, bare, un, hok', rv', q⟩ := h
      have q : v = .bl true := q
      subst q
      obtain rfl : u = Value.bool true := rv'
      have stay : ∀ b o, ¬ isT b → s.heap.get? b = some o → s'.heap.get? b = some o := fun b o z e => by
        rcases other b z with q | ⟨_, _, o2, ys, q⟩
        · exact un.keep b o e q (fun z => nomatch (show b ∈ ([] : List Addr) from z)) (by simp)
        · obtain ⟨e1, _⟩ := hok b _ q
          obtain ⟨e2, _⟩ := hok' b _ (un.frzs b o2 _ q)
          rw [e] at e1
          cases e1
          exact e2
      have grow : ∀ b, isT b → ∃ more, s'.heap.get? b = some { cls := .none, data := .fields (#[] ++ more) } := fun b z => by
        obtain ⟨more, gr⟩ := un.tbls b #[] (hT b z)
        exact ⟨more, hok' b _ gr⟩
      refine ⟨rfl, ⟨fun b o e => ?_, fun b o e => ?_⟩, os, bare⟩
      · by_cases z : isT b
        · obtain ⟨more, grown⟩ := grow b z
          rw [tabT z] at e
          cases e
          obtain ⟨p, hp, rfl⟩ := z
          exact .inr (.inl ⟨((hd p hp).tab (tab p hp)).isCodeTable, rfl, #[], more, rfl, grown⟩)
        · exact .inl (stay b o z e)
      · by_cases z : isT b
        · obtain ⟨more, grown⟩ := grow b z
          exact ⟨_, grown⟩
        · exact ⟨o, stay b o z e⟩
  classical
  cases hk : K.lookup a with
  | some o =>
    have e := kin a o hk
    rw [scr] at e
    cases e
    refine go (fun b => if isT b then some (.tbl #[]) else none) (fun b z => if_pos z) (fun b z => .inl (if_neg z)) (.inr ⟨_, vs.toArray, _, hk, rfl, rfl, rfl, by rw [List.size_toArray, vl]; exact fits, by simpa using rv⟩) (fun b u z => ?_)
    by_cases hb : isT b
    · have z2 := (if_pos hb).symm.trans z
      cases z2
      exact tabT hb
    · have z2 := (if_neg hb).symm.trans z
      cases z2
  | none =>
    refine go (fun b => if isT b then some (.tbl #[]) else if b = a then some (.frz { cls := .type "list", data := .seq vs.toArray } (.lst (ns.map V.int))) else none) (fun b z => if_pos z) (fun b z => ?_) (.inl (.inr ⟨{ cls := .type "list", data := .seq vs.toArray }, (if_neg ne).trans (if_pos rfl)⟩)) (fun b u z => ?_)
    · by_cases hb : b = a
      · exact .inr ⟨hb, hk, _, _, (if_neg z).trans (if_pos hb)⟩
      · exact .inl ((if_neg z).trans (if_neg hb))
    · by_cases hb : isT b
      · have z2 := (if_pos hb).symm.trans z
        cases z2
        exact tabT hb
      · by_cases hb2 : b = a
        · have z2 := ((if_neg hb).trans (if_pos hb2)).symm.trans z
          cases z2
          rw [hb2]
          exact ⟨scr, by rw [List.length_map]; exact fits, vs, _, rv, scr⟩
        · have z2 := ((if_neg hb).trans (if_neg hb2)).symm.trans z
          cases z2
theorem walk_end {l : PySem.W.OpenLaw} {n k : Nat} {q : Program} {loose : List Str} {XP : (Str → Option Value) → Heap → Prop} {YP : World → Heap → Prop} {d : DefRec} {x : Str}
    (hn : l.most = some n) (hn2 : n ≤ sizeLine) (hdf : d.params.defaults = []) (hr : Room k callerA)
    (F : ∀ (w : World) (mg : Str → Option Value) (fa : Addr) (h : Heap), YP w h → h.Ns mainGlobals mg → mg d.name = some (.ref fa) → ∃ (K : PySem.W.Frag) (TS : List (Addr × Addr)) (fd : FuncData) (sp : SpG), K.In h ∧ (∀ p ∈ TS, h.get? p.2 = some { cls := .none, data := .fields #[] }) ∧ (∀ p ∈ TS, K.lookup p.2 = none) ∧ (∀ p ∈ TS, PySem.W.CodeHd h p.1 p.2) ∧
      (∀ (H : Hp) (a : Addr) (ns : List Int), ns.length ≤ n → (∀ p ∈ TS, H p.2 = some (.tbl #[])) → SqL K H a (ns.map V.int) → sp [.ref a] H (fun v _ => v = .bl true)) ∧
      ∀ base : Heap, K.In base → base.Ns mainGlobals mg → (∀ p ∈ TS, TabB base mg p.1 p.2) → FnG l.prog w K mg base k fa fd [x] sp) :
    PySem.W.WalkO q loose XP YP l.row.toRowW d [] (fun f vs => PySem.call f vs) := by
  refine Att.attach_callB hn hdf fun w s₀ s₁ mg mb fa o pm cd doc a vs ns G Y ho hd hcd hmg hobj hints hlen hbits hg => ?_
  obtain ⟨K, TS, fd, sp, KX, hT, nT, C, hsp, hF⟩ := F w mg fa _ Y G.T.g hmg
  exact law_end KX G.T.g G.T.b G.T.builtins G.T.nolimit hg hT nT C G.T.bmain hobj hints (Nat.le_trans hlen hn2) hr hF fun H h1 h2 => hsp H a ns hlen h1 h2
end Rt
end
section
set_option Elab.async false
set_option linter.all false
set_option maxRecDepth 100000
set_option maxHeartbeats 0
namespace Rt
open PySem PySem.Spec PyProof.Rows L2
abbrev R : PySem.W.OpenRow := PySem.W.OpenLaw.row PySem.Challenge.rw_refundtrees_k72_answers_refused
abbrev hk : PySem.W.Hook := hookX
def ob (s : PySem.W.SharedT) : AlX := obsX (HandSHeadRun.getT s)
theorem ob_eq (s : PySem.W.SharedT) : ob s = hk.obs s.abs := obsX_eq (HandSHeadRun.getT_eq s)
def names1 : List Str := ["TreeError", "NoBook", "NoSkill", "NoBuild", "NoStep", "NoPlain", "NoNumber", "NoWorth", "NoSeen", "NoKind", "NothingBack", "NoNote", "SMALL_LETTERS", "LONGEST_WORD", "is_word", "is_one_of", "is_ordered", "are_unlike", "MOST_SKILLS", "is_seen", "explains", "greatest_wants", "must", "may", "next_ask", "must_be_names", "must_be_seen", "is_answer", "are_wants_of_all", "is_explained"]
def names2 : List Str := ["most_wanted", "_law_pool", "_law_take", "_law_one", "_law_caught", "_law_told_names", "_law_parts", "_law_answers", "_law_bad_names", "_law_bad_seen", "_law_all_refused"]
def names : List Str := names1 ++ names2
theorem run (w : World) : HandSHeadRun.RunEq R (PySem.W.view R.prog [45]) hk ob 6000 names w := by
  intro os
  kernel_rfl
end Rt
end
section
set_option Elab.async false
set_option linter.all false
set_option maxRecDepth 100000
set_option maxHeartbeats 0
/-! the whole: the head by its facts, the law by its walk -/
open PySem PySem.W PySem.Calls PyProof.Rows
theorem PySem.Challenge.cw_refundtrees_k72_answers_refused_holds : PySem.Challenge.rw_refundtrees_k72_answers_refused.Holds := by
  w_on; o_law
  refine HandSHeadRun.head_any (r := OpenLaw.row PySem.Challenge.rw_refundtrees_k72_answers_refused) (q := view (OpenLaw.row PySem.Challenge.rw_refundtrees_k72_answers_refused).prog [45]) (H := Rt.hk) (ob := Rt.ob) (M := 6000) (loose := Rt.names) (d := HandSHeadRun.topDef (OpenLaw.row PySem.Challenge.rw_refundtrees_k72_answers_refused).prog 45) (kwd := []) Rt.ob_eq
    (by kernel_rfl) (fun s => by kernel_rfl) Rt.run (by kernel_rfl) (by kernel_rfl) (by kernel_rfl) (by rfl) (by first | assumption | decide +kernel) (by decide +kernel) ⟨rfl, rfl, rfl, rfl, rfl, by decide +kernel⟩ ?hw ?hc
  case hw => w_witness2
  case hc =>
    refine Rt.walk_end (l := PySem.Challenge.rw_refundtrees_k72_answers_refused) (n := 63) (k := 15) (x := "_law_script") rfl (by decide) (by kernel_rfl) ⟨rfl, by decide, by decide⟩ ?F
    intro w mg fa h Y G hmg0
    obtain ⟨K, q⟩ := Y
    have hmg : mg ("law" : PySem.Str) = some (.ref fa) := by
      have e : (HandSHeadRun.topDef (OpenLaw.row PySem.Challenge.rw_refundtrees_k72_answers_refused).prog 45).name = ("law" : PySem.Str) := by kernel_rfl
      rw [← e]
      exact hmg0
    have W : Rt.AllX K mg := ⟨⟨q.x.d, h, q.kin, G⟩, q.x⟩
    have e := hmg.symm.trans W.z.g_law
    cases e
    obtain ⟨fd, _⟩ := W.z.f_law
    have la : ∀ y ∈ Rt.lamD, CodeHd h (Rt.lamC K y) (Rt.lamP K y) ∧ K.lookup (Rt.lamP K y) = none := fun y hy => Rt.lam_ok q.kin (q.x.lam hy)
    refine ⟨K, Rt.lamD.map fun y => (Rt.lamC K y, Rt.lamP K y), fd, Rt.spLaw K, q.kin, fun p hp => ?_, fun p hp => ?_, fun p hp => ?_, fun H a ns _ hT hS => ⟨a, ns, rfl, hS, fun p hp => ?_, fun _ => rfl⟩, fun base _ _ tb => ?_⟩
    · obtain ⟨y, hy, rfl⟩ := List.mem_map.mp hp
      exact q.tabs y hy
    · obtain ⟨y, hy, rfl⟩ := List.mem_map.mp hp
      exact (la y hy).2
    · obtain ⟨y, hy, rfl⟩ := List.mem_map.mp hp
      exact (la y hy).1
    · rcases List.mem_cons.mp hp with rfl | hp
      · exact LamX.TabS.nil (hT _ (List.mem_map_of_mem (show ("_law_all_refused" : PySem.Str) ∈ Rt.lamD by simp [Rt.lamD])))
      · rw [List.mem_singleton.mp hp]
        exact LamX.TabS.nil (hT _ (List.mem_map_of_mem (show ("law" : PySem.Str) ∈ Rt.lamD by simp [Rt.lamD])))
    · obtain ⟨_, F, _⟩ := Rt.fn_law (P := (PySem.Challenge.rw_refundtrees_k72_answers_refused).prog) (w := w) (base := base) W (tb _ (List.mem_map_of_mem (show ("_law_all_refused" : PySem.Str) ∈ Rt.lamD by simp [Rt.lamD]))) (tb _ (List.mem_map_of_mem (show ("law" : PySem.Str) ∈ Rt.lamD by simp [Rt.lamD])))
      exact ⟨F.len, F.run⟩
end
