import PyProof.Rows.All
import Wide.All
import OpenK.AllK
import Wide.FinOn
import HandS.ForMost
import HandS.Exc
import HandS.WideBits
import KE.KRevSl
import HandS.StrMore
import PyProof.ReprReads
import HandS.FStr
import HandS.Property
import HandS.ExcOwn
import HandS.ClsMeth
import PyProof.ReprRoads
import PyProof.ListStr
import HandS.IsInst
import HandS.Replace
import HandS.Strs
import HandS.Set
import HandS.SetFor
import HandS.SetTxt0
import HandS.SetTxtIn
import PyProof.StrWalks
import HandS.Conv
import HandS.SlotsOwn
import OpenK.KMeth
import PyProof.InstEq
import PyProof.StrOps
import HandS.Defaults
import HandS.HeadHook1
import HandS.HeadHook2
import HandS.HeadHook3
import KE.KIsAll
import HandS.Ends
import HandS.Head0
import HandS.Head1
import HandS.Head2
import HandS.HeadEnd
import PyProof.StrLawsIn
import PyProof.Rows.StrNews2
import PyProof.StrLawsRepr
import PyProof.FitsInt
import PySem.Challenge.RW_ringdepth_k13_whole_words_by_letters
set_option Elab.async false
set_option linter.all false
set_option maxRecDepth 100000
set_option maxHeartbeats 2000000
/-! Values as trees, and what stands for them in the layer's heap. -/
namespace Dw
open PySem L2

inductive D where
  | non | bl (b : Bool) | int (i : Int) | str (x : Str)
  | lst (xs : List D) | tup (xs : List D) | dic (kvs : List (D × D))
  | ins (c : Nat) (fs : List (Str × D))
  | rol (xs : List D)
  | cell (a : Addr)
instance : Inhabited D := ⟨.non⟩

inductive Ob where
  | lst (xs : List D) | dic (kvs : List (D × D)) | ins (c : Nat) (fs : List (Str × D))
abbrev CS := Addr → Option Ob
def cset (cs : CS) (a : Addr) (o : Ob) : CS := fun b => if b = a then some o else cs b
def cdel (cs : CS) (a : Addr) : CS := fun b => if b = a then none else cs b
theorem cset_same {cs : CS} {a : Addr} {o : Ob} : cset cs a o a = some o := if_pos rfl
theorem cset_ne {cs : CS} {a b : Addr} {o : Ob} (h : b ≠ a) : cset cs a o b = cs b := if_neg h
theorem cdel_same {cs : CS} {a : Addr} : cdel cs a a = none := if_pos rfl
theorem cdel_ne {cs : CS} {a b : Addr} (h : b ≠ a) : cdel cs a b = cs b := if_neg h
abbrev Env := List (Option D)
/-- an exception: its class's number, its attributes -/
structure Exn where
  c : Nat
  fs : List (Str × D)

def kD : Key → D
  | .inl i => .int i
  | .inr x => .str x

section
variable (K : PySem.W.Frag) (ca : Nat → Addr) (G : Hp)
mutual
inductive Rep : D → V → Prop where
  | non : Rep .non .non
  | bl (b : Bool) : Rep (.bl b) (.bl b)
  | int (i : Int) : Rep (.int i) (.int i)
  | str (x : Str) : Rep (.str x) (.str x)
  | lst {a : Addr} {xs : List D} {vs : List V} : G a = some (.lst vs) → RepL xs vs → Rep (.lst xs) (.ref a)
  | rol {a : Addr} {xs : List D} {vs : List V} : SqL K G a vs → RepL xs vs → Rep (.rol xs) (.ref a)
  | tup {a : Addr} {xs : List D} {vs : List V} : SqT K G a vs → RepL xs vs → Rep (.tup xs) (.ref a)
  | dic {a : Addr} {xs : List (D × D)} {vs : List (Key × V)} : G a = some (.dK vs) → RepK xs vs → Rep (.dic xs) (.ref a)
  | ins {a dx : Addr} {c : Nat} {fs : List (Str × D)} {vs : List (Str × V)} : G a = some (.ins (ca c) dx vs) → RepF fs vs → Rep (.ins c fs) (.ref a)
  | cell (a : Addr) : Rep (.cell a) (.ref a)
inductive RepL : List D → List V → Prop where
  | nil : RepL [] []
  | cons {d : D} {v : V} {ds : List D} {vs : List V} : Rep d v → RepL ds vs → RepL (d :: ds) (v :: vs)
inductive RepK : List (D × D) → List (Key × V) → Prop where
  | nil : RepK [] []
  | cons {k : Key} {d : D} {v : V} {ds : List (D × D)} {vs : List (Key × V)} : Rep d v → RepK ds vs → RepK ((kD k, d) :: ds) ((k, v) :: vs)
inductive RepF : List (Str × D) → List (Str × V) → Prop where
  | nil : RepF [] []
  | cons {f : Str} {d : D} {v : V} {ds : List (Str × D)} {vs : List (Str × V)} : Rep d v → RepF ds vs → RepF ((f, d) :: ds) ((f, v) :: vs)
end
end

theorem sqL_same {K : PySem.W.Frag} {G H : Hp} {a : Addr} {vs : List V} (s : Same G H) (h : SqL K G a vs) : SqL K H a vs := s.seq h
theorem sqT_same {K : PySem.W.Frag} {G H : Hp} {a : Addr} {vs : List V} (s : Same G H) (h : SqT K G a vs) : SqT K H a vs := by
  rcases h with (h | ⟨o, h⟩) | h
  · exact .inl (.inl (s _ _ h))
  · exact .inl (.inr ⟨o, s _ _ h⟩)
  · exact .inr h
section
variable {K : PySem.W.Frag} {ca : Nat → Addr} {G H : Hp}
mutual
theorem Rep.mono (s : Same G H) : ∀ {d : D} {v : V}, Rep K ca G d v → Rep K ca H d v
  | _, _, .non => .non
  | _, _, .bl b => .bl b
  | _, _, .int i => .int i
  | _, _, .str x => .str x
  | _, _, .lst h r => .lst (s _ _ h) (RepL.mono s r)
  | _, _, .rol h r => .rol (sqL_same s h) (RepL.mono s r)
  | _, _, .tup h r => .tup (sqT_same s h) (RepL.mono s r)
  | _, _, .dic h r => .dic (s _ _ h) (RepK.mono s r)
  | _, _, .ins h r => .ins (s _ _ h) (RepF.mono s r)
  | _, _, .cell a => .cell a
theorem RepL.mono (s : Same G H) : ∀ {d : List D} {v : List V}, RepL K ca G d v → RepL K ca H d v
  | _, _, .nil => .nil
  | _, _, .cons h r => .cons (Rep.mono s h) (RepL.mono s r)
theorem RepK.mono (s : Same G H) : ∀ {d : List (D × D)} {v : List (Key × V)}, RepK K ca G d v → RepK K ca H d v
  | _, _, .nil => .nil
  | _, _, .cons h r => .cons (Rep.mono s h) (RepK.mono s r)
theorem RepF.mono (s : Same G H) : ∀ {d : List (Str × D)} {v : List (Str × V)}, RepF K ca G d v → RepF K ca H d v
  | _, _, .nil => .nil
  | _, _, .cons h r => .cons (Rep.mono s h) (RepF.mono s r)
end
theorem RepL.length : ∀ {d : List D} {v : List V}, RepL K ca G d v → d.length = v.length
  | _, _, .nil => rfl
  | _, _, .cons _ r => congrArg (· + 1) r.length
theorem RepL.append : ∀ {d e : List D} {v w : List V}, RepL K ca G d v → RepL K ca G e w → RepL K ca G (d ++ e) (v ++ w)
  | _, _, _, _, .nil, r => r
  | _, _, _, _, .cons h q, r => .cons h (q.append r)
theorem RepL.get : ∀ {d : List D} {v : List V} {i : Nat} {x : D}, RepL K ca G d v → d[i]? = some x → ∃ y, v[i]? = some y ∧ Rep K ca G x y
  | _, _, _, _, .nil, e => by simp at e
  | _, _, 0, _, .cons h _, e => by simp at e; subst e; exact ⟨_, rfl, h⟩
  | _, _, i + 1, x, .cons _ r, e => by
    obtain ⟨y, h1, h2⟩ := RepL.get (i := i) (x := x) r (by simpa using e)
    exact ⟨y, by simpa using h1, h2⟩
theorem RepL.getV : ∀ {d : List D} {v : List V} {i : Nat} {y : V}, RepL K ca G d v → v[i]? = some y → ∃ x, d[i]? = some x ∧ Rep K ca G x y
  | _, _, _, _, .nil, e => by simp at e
  | _, _, 0, _, .cons h _, e => by simp at e; subst e; exact ⟨_, rfl, h⟩
  | _, _, i + 1, x, .cons _ r, e => by
    obtain ⟨y, h1, h2⟩ := RepL.getV (i := i) (y := x) r (by simpa using e)
    exact ⟨y, by simpa using h1, h2⟩
theorem RepL.set : ∀ {d : List D} {v : List V} {x : D} {y : V} (i : Nat), RepL K ca G d v → Rep K ca G x y → RepL K ca G (d.set i x) (v.set i y)
  | _, _, _, _, _, .nil, _ => .nil
  | _, _, _, _, 0, .cons _ r, h => .cons h r
  | _, _, _, _, i + 1, .cons q r, h => .cons q (RepL.set i r h)
theorem RepL.take : ∀ {d : List D} {v : List V} (i : Nat), RepL K ca G d v → RepL K ca G (d.take i) (v.take i)
  | _, _, 0, _ => by simp only [List.take_zero]; exact .nil
  | _, _, _ + 1, .nil => .nil
  | _, _, i + 1, .cons q r => .cons q (RepL.take i r)
theorem RepL.drop : ∀ {d : List D} {v : List V} (i : Nat), RepL K ca G d v → RepL K ca G (d.drop i) (v.drop i)
  | _, _, 0, r => r
  | _, _, _ + 1, .nil => .nil
  | _, _, i + 1, .cons _ r => RepL.drop i r
theorem RepF.look : ∀ {d : List (Str × D)} {v : List (Str × V)} {f : Str} {x : D}, RepF K ca G d v → d.lookup f = some x → ∃ y, v.lookup f = some y ∧ Rep K ca G x y
  | _, _, _, _, .nil, e => by simp at e
  | _, _, f, x, .cons (f := g) h r, e => by
    rw [List.lookup_cons] at e ⊢
    cases hb : f == g with
    | true => rw [hb] at e; cases e; exact ⟨_, rfl, h⟩
    | false => rw [hb] at e; exact RepF.look r e
theorem RepF.len : ∀ {d : List (Str × D)} {v : List (Str × V)}, RepF K ca G d v → d.length = v.length
  | _, _, .nil => rfl
  | _, _, .cons _ r => congrArg (· + 1) r.len
theorem RepF.look_none : ∀ {d : List (Str × D)} {v : List (Str × V)} {f : Str}, RepF K ca G d v → d.lookup f = none → v.lookup f = none
  | _, _, _, .nil, e => rfl
  | _, _, f, .cons (f := g) h r, e => by
    rw [List.lookup_cons] at e ⊢
    cases hb : f == g with
    | true => rw [hb] at e; cases e
    | false => rw [hb] at e; exact RepF.look_none r e
end

/-! ### what stands at an object's address -/
def ObR (K : PySem.W.Frag) (ca : Nat → Addr) (G H : Hp) (a : Addr) : Ob → Prop
  | .lst xs => ∃ vs, H a = some (.lst vs) ∧ RepL K ca G xs vs
  | .dic xs => ∃ vs, H a = some (.dK vs) ∧ RepK K ca G xs vs
  | .ins c fs => ∃ dx vs, H a = some (.ins (ca c) dx vs) ∧ RepF K ca G fs vs
def Ob.d : Ob → D
  | .lst xs => .lst xs
  | .dic xs => .dic xs
  | .ins c fs => .ins c fs
theorem ObR.mono {K : PySem.W.Frag} {ca : Nat → Addr} {G G' H H' : Hp} {a : Addr} {o : Ob} (s : Same G G') (h : H' a = H a) (r : ObR K ca G H a o) : ObR K ca G' H' a o := by
  cases o with
  | lst xs => obtain ⟨vs, e, r⟩ := r; exact ⟨vs, h ▸ e, r.mono s⟩
  | dic xs => obtain ⟨vs, e, r⟩ := r; exact ⟨vs, h ▸ e, r.mono s⟩
  | ins c fs => obtain ⟨dx, vs, e, r⟩ := r; exact ⟨dx, vs, h ▸ e, r.mono s⟩
theorem ObR.there {K : PySem.W.Frag} {ca : Nat → Addr} {G H : Hp} {a : Addr} {o : Ob} (r : ObR K ca G H a o) : ∃ u, H a = some u := by
  cases o with
  | lst xs => obtain ⟨vs, e, _⟩ := r; exact ⟨_, e⟩
  | dic xs => obtain ⟨vs, e, _⟩ := r; exact ⟨_, e⟩
  | ins c fs => obtain ⟨dx, vs, e, _⟩ := r; exact ⟨_, e⟩

structure Ok (K : PySem.W.Frag) (ca : Nat → Addr) (G H : Hp) (cs : CS) : Prop where
  sub : Same G H
  cel : ∀ a o, cs a = some o → G a = none ∧ ObR K ca G H a o
/-- a result: a tree; or (fr) a new list, dict, that nothing else names -/
def RepR (K : PySem.W.Frag) (ca : Nat → Addr) (G H : Hp) (cs : CS) (d : D) (fr : Bool) (v : V) : Prop :=
  if fr = true then ∃ a o, v = .ref a ∧ d = Ob.d o ∧ G a = none ∧ cs a = none ∧ ObR K ca G H a o else Rep K ca G d v
def EnvR (K : PySem.W.Frag) (ca : Nat → Addr) (G : Hp) (env : Env) (σ : L2.St) : Prop :=
  env.length = σ.length ∧ ∀ (i : Nat) (d : D), env[i]? = some (some d) → ∃ v, σ[i]? = some (some v) ∧ Rep K ca G d v
section
variable {K : PySem.W.Frag} {ca : Nat → Addr} {G G' H H' : Hp} {cs : CS} {env : Env} {σ : L2.St} {d : D} {v : V} {fr : Bool}
theorem EnvR.mono (s : Same G G') (r : EnvR K ca G env σ) : EnvR K ca G' env σ := ⟨r.1, fun i d e => let ⟨v, h1, h2⟩ := r.2 i d e; ⟨v, h1, h2.mono s⟩⟩
theorem EnvR.set {i : Nat} (r : EnvR K ca G env σ) (h : Rep K ca G d v) : EnvR K ca G (env.set i (some d)) (σ.set i (some v)) := by
  refine ⟨by simpa using r.1, fun j e hj => ?_⟩
  by_cases hij : i = j
  · subst hij
    by_cases hl : i < env.length
    · rw [List.getElem?_set_self hl] at hj
      cases hj
      exact ⟨v, by rw [List.getElem?_set_self (by rw [← r.1]; exact hl)], h⟩
    · rw [List.getElem?_eq_none (by simpa using hl)] at hj; cases hj
  · rw [List.getElem?_set_ne hij] at hj ⊢
    exact r.2 j e hj
/-- the same slot told otherwise -/
theorem EnvR.tell {i : Nat} (r : EnvR K ca G env σ) (hv : σ[i]? = some (some v)) (h : Rep K ca G d v) : EnvR K ca G (env.set i (some d)) σ := by
  refine ⟨by simpa using r.1, fun j e hj => ?_⟩
  by_cases hij : i = j
  · subst hij
    by_cases hl : i < env.length
    · rw [List.getElem?_set_self hl] at hj
      cases hj
      exact ⟨v, hv, h⟩
    · rw [List.getElem?_eq_none (by simpa using hl)] at hj; cases hj
  · rw [List.getElem?_set_ne hij] at hj
    exact r.2 j e hj
theorem EnvR.forget {i : Nat} (r : EnvR K ca G env σ) : EnvR K ca G (env.set i none) σ := by
  refine ⟨by simpa using r.1, fun j e hj => ?_⟩
  by_cases hij : i = j
  · subst hij
    by_cases hl : i < env.length
    · rw [List.getElem?_set_self hl] at hj; cases hj
    · rw [List.getElem?_eq_none (by simpa using hl)] at hj; cases hj
  · rw [List.getElem?_set_ne hij] at hj
    exact r.2 j e hj
theorem EnvR.put {i : Nat} {w : Option V} (r : EnvR K ca G env σ) : EnvR K ca G (env.set i none) (σ.set i w) := by
  refine ⟨by simpa using r.1, fun j e hj => ?_⟩
  by_cases hij : i = j
  · subst hij
    by_cases hl : i < env.length
    · rw [List.getElem?_set_self hl] at hj; cases hj
    · rw [List.getElem?_eq_none (by simpa using hl)] at hj; cases hj
  · rw [List.getElem?_set_ne hij] at hj ⊢
    exact r.2 j e hj

/-- an address that is not in G joins it -/
theorem Same.join {a : Addr} {u : HO} (h : G a = none) : Same G (upd G a u) := fun b o e => by
  rw [upd_ne (ne_of_none e h)]; exact e
theorem Ok.join {a : Addr} {u : HO} (ok : Ok K ca G H cs) (h : G a = none) (hc : cs a = none) (e : H a = some u) : Ok K ca (upd G a u) H cs := by
  refine ⟨fun b o q => ?_, fun b o q => ?_⟩
  · by_cases hb : b = a
    · subst hb; rw [upd_same] at q; cases q; exact e
    · rw [upd_ne hb] at q; exact ok.sub b o q
  · obtain ⟨h1, h2⟩ := ok.cel b o q
    have hb : b ≠ a := fun z => by rw [z, hc] at q; cases q
    exact ⟨by rw [upd_ne hb]; exact h1, h2.mono (Same.join h) rfl⟩
theorem Ok.drop (ok : Ok K ca G H cs) (a : Addr) : Ok K ca G H (cdel cs a) := ⟨ok.sub, fun b o q => by
  by_cases hb : b = a
  · subst hb; rw [cdel_same] at q; cases q
  · rw [cdel_ne hb] at q; exact ok.cel b o q⟩
/-- an object of ours becomes part of the trees -/
theorem Ok.freezeOb {a : Addr} {o : Ob} (ok : Ok K ca G H cs) (h : G a = none) (hc : cs a = none) (r : ObR K ca G H a o) : ∃ G', Same G G' ∧ Ok K ca G' H cs ∧ Rep K ca G' o.d (.ref a) := by
  cases o with
  | lst xs => obtain ⟨vs, e, r⟩ := r; exact ⟨_, Same.join h, ok.join h hc e, .lst upd_same (r.mono (Same.join h))⟩
  | dic xs => obtain ⟨vs, e, r⟩ := r; exact ⟨_, Same.join h, ok.join h hc e, .dic upd_same (r.mono (Same.join h))⟩
  | ins c fs => obtain ⟨dx, vs, e, r⟩ := r; exact ⟨_, Same.join h, ok.join h hc e, .ins upd_same (r.mono (Same.join h))⟩
theorem Ok.freeze (ok : Ok K ca G H cs) (r : RepR K ca G H cs d fr v) : ∃ G', Same G G' ∧ Ok K ca G' H cs ∧ Rep K ca G' d v := by
  unfold RepR at r
  cases fr with
  | false => rw [if_neg Bool.false_ne_true] at r; exact ⟨G, Same.refl _, ok, r⟩
  | true =>
    rw [if_pos rfl] at r
    obtain ⟨a, o, rfl, rfl, h, hc, r⟩ := r
    exact ok.freezeOb h hc r
theorem Rep.r (h : Rep K ca G d v) : RepR K ca G H cs d false v := by unfold RepR; rw [if_neg Bool.false_ne_true]; exact h
/-- a new object -/
theorem Ok.alloc {a : Addr} {u : HO} (ok : Ok K ca G H cs) (h : H a = none) : Ok K ca G (upd H a u) cs := by
  refine ⟨fun b o q => ?_, fun b o q => ?_⟩
  · rw [upd_ne (ne_of_none (ok.sub b o q) h)]; exact ok.sub b o q
  · obtain ⟨h1, h2⟩ := ok.cel b o q
    obtain ⟨u', e⟩ := h2.there
    exact ⟨h1, h2.mono (Same.refl _) (upd_ne (ne_of_none e h))⟩
theorem Ok.noG {a : Addr} (ok : Ok K ca G H cs) (h : H a = none) : G a = none := ok.sub.free h
theorem Ok.noC {a : Addr} (ok : Ok K ca G H cs) (h : H a = none) : cs a = none := by
  cases q : cs a with
  | none => rfl
  | some o =>
    obtain ⟨_, h2⟩ := ok.cel a o q
    obtain ⟨u, e⟩ := h2.there
    rw [h] at e; cases e
/-- a new list as a result -/
theorem newL {p : Addr} {ds : List D} {vs : List V} (ok : Ok K ca G H cs) (h : H p = none) (r : RepL K ca G ds vs) : Ok K ca G (upd H p (.lst vs)) cs ∧ RepR K ca G (upd H p (.lst vs)) cs (.lst ds) true (.ref p) := by
  refine ⟨ok.alloc h, ?_⟩
  unfold RepR; rw [if_pos rfl]
  exact ⟨p, .lst ds, rfl, rfl, ok.noG h, ok.noC h, vs, upd_same, r⟩
/-- a new tuple -/
theorem newT {p : Addr} {ds : List D} {vs : List V} (ok : Ok K ca G H cs) (h : H p = none) (r : RepL K ca G ds vs) : ∃ G', Same G G' ∧ Ok K ca G' (upd H p (.tup vs)) cs ∧ RepR K ca G' (upd H p (.tup vs)) cs (.tup ds) false (.ref p) :=
  ⟨upd G p (.tup vs), Same.join (ok.noG h), (ok.alloc h).join (ok.noG h) (ok.noC h) upd_same, (Rep.tup (SqT.of upd_same) (r.mono (Same.join (ok.noG h)))).r⟩
/-- an object of ours is written -/
theorem Ok.write {a : Addr} {o : Ob} {u : HO} (ok : Ok K ca G H cs) (h : G a = none) (r : ObR K ca G (upd H a u) a o) : Ok K ca G (upd H a u) (cset cs a o) := by
  refine ⟨fun b ob q => ?_, fun b ob q => ?_⟩
  · rw [upd_ne (ne_of_none q h)]; exact ok.sub b ob q
  · by_cases hb : b = a
    · subst hb; rw [cset_same] at q; cases q; exact ⟨h, r⟩
    · rw [cset_ne hb] at q
      obtain ⟨h1, h2⟩ := ok.cel b ob q
      exact ⟨h1, h2.mono (Same.refl _) (upd_ne hb)⟩
theorem Ok.take {a : Addr} {o : Ob} (ok : Ok K ca G H cs) (h : G a = none) (r : ObR K ca G H a o) : Ok K ca G H (cset cs a o) := by
  refine ⟨ok.sub, fun b ob q => ?_⟩
  by_cases hb : b = a
  · subst hb; rw [cset_same] at q; cases q; exact ⟨h, r⟩
  · rw [cset_ne hb] at q; exact ok.cel b ob q
end
end Dw
set_option Elab.async false
set_option linter.all false
set_option maxRecDepth 100000
set_option maxHeartbeats 2000000
/-! The program's text in short, and what is wanted of it. -/
namespace Dw
open PySem L2

/-- built-in functions and types that are called -/
inductive Bi where
  | len | abs | max | min | int | all | any | sum | list | tuple | divmod | repr | sorted
  | isi (t : String) | isc (c : Nat)
  deriving DecidableEq
/-- methods of built-in values -/
inductive Bm where
  | join | find | isascii | isalpha | islower | append | strip | index
  deriving DecidableEq
mutual
inductive Ex where
  | var (i : Nat) | frz (i : Nat) | own (i : Nat)
  | non | bl (b : Bool) | int (i : Int) | str (x : Str)
  | bin (op : Operator) (a b : Ex)
  | neg (a : Ex)
  | cmp (op : CmpOp) (a b : Ex)
  | chn (o1 o2 : CmpOp) (a b c : Ex)
  | and (a b : Ex) | or (a b : Ex) | one (a : Ex) | not (a : Ex)
  | ite (c : Ct) (a b : Ex)
  | lst (es : Exs) | tup (es : Exs)
  | sub (a i : Ex)
  | slc (a : Ex) (lo hi : Ox)
  | call (f : Nat) (es : Exs)
  | make (c : Nat) (f : Nat) (es : Exs)
  | callk (f : Nat) (es : Exs) (kn : List Str) (ks : Exs) (perm : List Nat)
  | makek (c f : Nat) (es : Exs) (kn : List Str) (ks : Exs) (perm : List Nat)
  | stat (c : Nat) (m : Str) (f : Nat) (es : Exs)
  | statk (c : Nat) (m : Str) (f : Nat) (es : Exs) (kn : List Str) (ks : Exs) (perm : List Nat)
  | rev (a : Ex) | dic0 | isi2 (t u : String) (a : Ex)
  | sset (e : Ex)                 -- sorted(set(e))
  | lrg (e : Ex)                  -- list(range(e))
  | dic1 (k : Str) (i : Int)
  | mcall (m : Str) (o : Ex) (es : Exs)
  | mcallk (m : Str) (o : Ex) (es : Exs) (kn : List Str) (ks : Exs) (perm : List Nat)
  | fld (o : Ex) (f : Str)
  | ccon (c : Nat) (f : Str)
  | bi (b : Bi) (es : Exs)
  | bm (m : Bm) (o : Ex) (es : Exs)
  | lc (own : List (Str × Nat)) (tg : Tg) (src : Sr) (cond : Co) (elt : Ex)
  | fs (es : Exs)
  | new (e : Ex)
inductive Exs where
  | nil | cons (e : Ex) (es : Exs)
inductive Ox where
  | none | some (e : Ex)
inductive Co where
  | none | some (c : Ct)
inductive Ct where
  | val (e : Ex) | and (a b : Ct) | or (a b : Ct) | one (a : Ct) | not (a : Ct)
inductive Tg where
  | nm (i : Nat) | tup (ts : Tgs) | sub (o i : Ex) | fld (o : Ex) (f : Str)
inductive Tgs where
  | nil | cons (t : Tg) (ts : Tgs)
inductive Sr where
  | it (e : Ex) | rng1 (e : Ex) | rng2 (a b : Ex)
end
mutual
inductive Sm where
  | pass | brk | cont
  | expr (e : Ex)
  | app (i : Nat) (e : Ex)
  | ret (e : Ex) | retN
  | asg (t : Tg) (e : Ex)
  | asgN (i : Nat) (e : Ex)       -- a new list, dict that is kept as ours
  | par (i j : Nat) (a b : Ex)    -- two names at once
  | ifs (c : Ct) (a b : Sms)
  | for_ (t : Tg) (s : Sr) (body : Sms)
  | while_ (c : Ct) (body : Sms)
  | raise (c f : Nat) (es : Exs)
  | never
inductive Sms where
  | nil | cons (s : Sm) (r : Sms)
end

/-! ### the operations by values -/
abbrev RO := Option (D × Bool)
def okSz (n : Nat) : Bool := decide (n ≤ sizeLine)
def mulOk (i j : Int) : Bool := (decide (-(2 ^ 64) < i) && decide (i < 2 ^ 64)) || (decide (-(2 ^ 64) < j) && decide (j < 2 ^ 64))
def rep {α : Type} (xs : List α) (k : Nat) : List α := (List.replicate k xs).flatten
def strRep (x : Str) (n : Int) : Str := ⟨(rep x.cps.toList n.toNat).toArray⟩
def binop : Operator → D → D → RO
  | .Add, .int i, .int j => some (.int (i + j), false)
  | .Sub, .int i, .int j => some (.int (i - j), false)
  | .Mult, .int i, .int j => if mulOk i j then some (.int (i * j), false) else none
  | .Mult, .str x, .int j => if decide (-(2 ^ 62) ≤ j) && (decide (j < 2 ^ 62) && okSz (x.length * j.toNat)) then some (.str (strRep x j), false) else none
  | .Mult, .lst x, .int j => if decide (-(2 ^ 62) ≤ j) && (decide (j < 2 ^ 62) && okSz (x.length * j.toNat)) then some (.lst (rep x j.toNat), true) else none
  | .FloorDiv, .int i, .int j => if decide (j ≠ 0) && decide (j.natAbs < 1073741824) then some (.int (i.fdiv j), false) else none
  | .Mod, .int i, .int j => if decide (j ≠ 0) then some (.int (i.fmod j), false) else none
  | .Pow, .int i, .int j => if decide (0 ≤ j) && (decide (j ≤ 1000000) && decide (i.natAbs < 2 ^ 64)) then some (.int (i ^ j.toNat), false) else none
  | .Add, .str x, .str y => if okSz (x.length + y.length) then some (.str (x ++ y), false) else none
  | .Add, .lst x, .lst y => if okSz x.length && (okSz y.length && okSz (x ++ y).length) then some (.lst (x ++ y), true) else none
  | _, _, _ => none
def isSc : D → Bool
  | .non => true
  | .bl _ => true
  | .int _ => true
  | .str _ => true
  | _ => false
def scEq : D → D → Bool
  | .non, .non => true
  | .bl a, .bl b => a == b
  | .int a, .int b => decide (a = b)
  | .str a, .str b => decide (a = b)
  | _, _ => false
/-- one kind -/
def scK : D → D → Bool
  | .non, .non => true
  | .bl _, .bl _ => true
  | .int _, .int _ => true
  | .str _, .str _ => true
  | _, _ => false
def isNon : D → Bool
  | .non => true
  | _ => false
mutual
/-- plain data, as the library's == tells it -/
def datD : D → Option PyData
  | .non => some .none
  | .bl b => some (.bool b)
  | .int i => some (.int i)
  | .str x => some (.str x)
  | .lst xs => (datL xs).map .list
  | .tup xs => (datL xs).map .tuple
  | _ => none
def datL : List D → Option (List PyData)
  | [] => some []
  | d :: ds => (datD d).bind fun p => (datL ds).map (p :: ·)
end
/-- == of data that is no scalar of one kind -/
def datEq (a b : D) : Option Bool := (datD a).bind fun p => (datD b).bind fun q => if SeqAt.shaped p && SeqAt.shaped q then some (PyData.eqv p q) else none
def cmpop : CmpOp → D → D → Option Bool
  | .Eq, a, b => if scK a b then some (scEq a b) else datEq a b
  | .NotEq, a, b => if scK a b then some (!scEq a b) else (datEq a b).map (!·)
  | .Lt, .int a, .int b => some (decide (a < b))
  | .LtE, .int a, .int b => some (decide (a ≤ b))
  | .Gt, .int a, .int b => some (decide (b < a))
  | .GtE, .int a, .int b => some (decide (b ≤ a))
  | .Is, a, .non => some (isNon a)
  | .IsNot, a, .non => some (!isNon a)
  | .In, .str a, .str b => some (!(Builtin.Str.occurrences b a 0 b.length 1).isEmpty)
  | .NotIn, .str a, .str b => some (!(!(Builtin.Str.occurrences b a 0 b.length 1).isEmpty))
  | _, _, _ => none
def blsD : List D → Option (List Bool)
  | [] => some []
  | .bl b :: r => (blsD r).map (b :: ·)
  | _ :: _ => none
def intsD : List D → Option (List Int)
  | [] => some []
  | .int b :: r => (intsD r).map (b :: ·)
  | _ :: _ => none
def strsD : List D → Option (List Str)
  | [] => some []
  | .str b :: r => (strsD r).map (b :: ·)
  | _ :: _ => none
def tyN : D → Option String
  | .non => some "NoneType"
  | .bl _ => some "bool"
  | .int _ => some "int"
  | .str _ => some "str"
  | .lst _ => some "list"
  | .tup _ => some "tuple"
  | .dic _ => some "dict"
  | _ => none
def subT (n t : String) : Option Bool :=
  if t = "str" then some (decide (n = "str")) else if t = "int" then some (decide (n = "int") || decide (n = "bool")) else if t = "bool" then some (decide (n = "bool"))
  else if t = "list" then some (decide (n = "list")) else if t = "tuple" then some (decide (n = "tuple")) else if t = "dict" then some (decide (n = "dict")) else none
def isiD (t : String) (d : D) : Option Bool := (tyN d).bind fun n => subT n t
def isi2D (t u : String) (d : D) : Option Bool := (isiD t d).bind fun b => if b = true then some true else isiD u d
def biop : Bi → List D → RO
  | .len, [.str x] => if okSz x.length then some (.int x.length, false) else none
  | .len, [.lst x] => some (.int x.length, false)
  | .len, [.tup x] => some (.int x.length, false)
  | .len, [.rol x] => some (.int x.length, false)
  | .abs, [.int i] => some (.int (if i < 0 then -i else i), false)
  | .max, [.int i, .int j] => some (.int (if j > i then j else i), false)
  | .min, [.int i, .int j] => some (.int (if j < i then j else i), false)
  | .int, [.int i] => some (.int i, false)
  | .int, [.bl b] => some (.int (if b then 1 else 0), false)
  | .all, [.lst x] => (blsD x).map fun bs => (.bl (bs.all id), false)
  | .any, [.lst x] => (blsD x).map fun bs => (.bl (bs.any id), false)
  | .sum, [.lst x] => (intsD x).map fun ns => (.int ns.sum, false)
  | .list, [.lst x] => some (.lst x, true)
  | .list, [.tup x] => some (.lst x, true)
  | .list, [.str x] => if okSz x.length then some (.lst (x.cps.toList.map fun c => .str ⟨#[c]⟩), true) else none
  | .tuple, [.lst x] => some (.tup x, false)
  | .divmod, [.int i, .int j] => if decide (0 < j) && decide (j < 1073741824) then some (.tup [.int (i / j), .int (i % j)], false) else none
  | .isi t, [x] => (isiD t x).map fun b => (.bl b, false)
  | _, _ => none
end Dw
set_option Elab.async false
set_option linter.all false
set_option maxRecDepth 100000
set_option maxHeartbeats 2000000
namespace Dw
open PySem L2

/-! ### the program's table -/
structure FnI where
  ps : List Str
  kw : List (Nat × List Str × List Nat) := []
/-- a part of an own __repr__ -/
inductive RP where
  | lit (x : Str) | fld (f : Str)
  deriving DecidableEq
structure ClI where
  nm : Str
  flds : List Str
  meths : List (Str × Nat)
  props : List (Str × Nat)
  cons : List (Str × D)
  stats : List (Str × Nat)
  init : Option Nat := none
  rep : List RP := []
inductive Glo where
  | fn (i : Nat) | cls (c : Nat)
structure Pg where
  fns : List FnI
  cls : List ClI
  glo : List (Str × Glo)
  free : List Str
def Pg.meth (P : Pg) (c : Nat) (m : Str) : Option Nat := (P.cls[c]?).bind fun ci => ci.meths.lookup m
def Pg.prop (P : Pg) (c : Nat) (m : Str) : Option Nat := (P.cls[c]?).bind fun ci => ci.props.lookup m
def Pg.con (P : Pg) (c : Nat) (m : Str) : Option D := (P.cls[c]?).bind fun ci => ci.cons.lookup m
def Pg.sta (P : Pg) (c : Nat) (m : Str) : Option Nat := (P.cls[c]?).bind fun ci => ci.stats.lookup m
def Pg.isF (P : Pg) (c : Nat) (m : Str) : Bool := match P.cls[c]? with
  | some ci => ci.flds.contains m
  | none => false

def Pg.initOf (P : Pg) (c : Nat) : Option Nat := (P.cls[c]?).bind fun ci => ci.init
def Pg.ar (P : Pg) (f : Nat) : Option Nat := (P.fns[f]?).map fun fi => fi.ps.length
def Pg.kwB (P : Pg) (f n : Nat) (kn : List Str) (perm : List Nat) : Bool := match P.fns[f]? with
  | some fi => decide ((n, kn, perm) ∈ fi.kw)
  | none => false
abbrev WT := Exn → Env → CS → Prop
abbrev QT := D → Bool → Env → CS → Prop
abbrev QA := List D → Env → CS → Prop
abbrev KT := Env → CS → Prop
abbrev PhT := Nat → List D → CS → (D → Bool → CS → Prop) → (Exn → CS → Prop) → Prop
def WN : WT := fun _ _ _ => False

/-- a list, dict of ours, read -/
def dv (cs : CS) : D → D
  | .cell a => match cs a with
    | some (.lst xs) => .lst xs
    | some (.dic xs) => .dic xs
    | _ => .cell a
  | d => d
/-- an instance: its class and attributes -/
def insOf (cs : CS) : D → Option (Nat × List (Str × D))
  | .ins c fs => some (c, fs)
  | .cell a => match cs a with
    | some (.ins c fs) => some (c, fs)
    | _ => none
  | _ => none
def Tgs.len : Tgs → Nat
  | .nil => 0
  | .cons _ r => r.len + 1
def wipeE (env : Env) : List Nat → Env
  | [] => env
  | v :: vs => (wipeE env vs).set v none
def putE (f : Str) (v : D) : List (Str × D) → List (Str × D)
  | [] => [(f, v)]
  | (g, w) :: r => if g = f then (f, v) :: r else (g, w) :: putE f v r
theorem RepF.put {K : PySem.W.Frag} {ca : Nat → Addr} {G : Hp} {f : Str} {x : D} {y : V} (h : Rep K ca G x y) : ∀ {d : List (Str × D)} {v : List (Str × V)}, RepF K ca G d v → RepF K ca G (putE f x d) (putF f y v)
  | _, _, .nil => .cons h .nil
  | _, _, .cons (f := g) q r => by
    unfold putE putF
    by_cases e : g = f
    · rw [if_pos e, if_pos e, e]; exact .cons h r
    · rw [if_neg e, if_neg e]; exact .cons q (RepF.put h r)
/-- what a for walks -/
def items (d : D) : Option (List D) := match d with
  | .lst xs => some xs
  | .tup xs => some xs
  | .rol xs => some xs
  | .str x => some (x.cps.toList.map fun c => .str ⟨#[c]⟩)
  | _ => none
def rngI (lo : Int) (n : Nat) : List D := (List.range n).map fun (i : Nat) => .int (lo + (i : Int))
def truth : D → Option Bool
  | .bl b => some b
  | .non => some false
  | .int i => some (i != 0)
  | .str x => if okSz x.length then some (x.length != 0) else none
  | .lst xs => some (!xs.isEmpty)
  | .tup xs => some (!xs.isEmpty)
  | _ => none
def ixD (a i : D) : Option D := match a, i with
  | .lst xs, .int i => atI xs i
  | .tup xs, .int i => atI xs i
  | .rol xs, .int i => atI xs i
  | .str x, .int i => if okSz x.length then (atI x.cps.toList i).map fun c => .str ⟨#[c]⟩ else none
  | _, _ => none
def cutD (xs : List D) (lo hi : Option Int) : List D := (xs.drop (HT.sIx xs.length 0 lo)).take (HT.sIx xs.length xs.length hi - HT.sIx xs.length 0 lo)
def slD (a : D) (lo hi : Option Int) : RO := match a with
  | .str x => if okSz x.length then some (.str (cutS x lo hi), false) else none
  | .lst xs => some (.lst (cutD xs lo hi), true)
  | _ => none
/-- xs[::-1] -/
def revD (a : D) : RO := match a with
  | .str x => if okSz x.length then some (.str ⟨x.cps.toList.reverse.toArray⟩, false) else none
  | .lst xs => some (.lst xs.reverse, true)
  | _ => none
/-- the texts that a set is made of -/
def setItems : D → Option (List Str)
  | .str x => some (x.cps.toList.map fun c => ⟨#[c]⟩)
  | .lst xs => strsD xs
  | _ => none
def bmop (m : Bm) (o : D) (ds : List D) : RO := match m, o, ds with
  | .join, .str s, [.lst xs] => (strsD xs).bind fun ys => if decide ((ys.map Str.length).sum + ys.length * s.length ≤ 16777216) then some (.str (Txt.join s ys), false) else none
  | .find, .str s, [.str t, .int i] => some (.int (Txt.find3 s t i), false)
  | .find, .str s, [.str t] => some (.int (Txt.find s t), false)
  | .isascii, .str s, [] => some (.bl (Txt.isascii s), false)
  | .isalpha, .str s, [] => some (.bl (Txt.isalpha s), false)
  | .islower, .str s, [] => some (.bl (Txt.islower s), false)
  | .strip, .str s, [.str t] => if okSz s.length then some (.str (Txt.stripChars s t), false) else none
  | .index, .str s, [.str t] => (Builtin.Str.occurrences s t 0 s.length 1).head?.map fun i => (.int (i : Nat), false)
  | _, _, _ => none
/-- where a number stands first in a list of numbers -/
def lixop (o : D) (ds : List D) : RO := match o, ds with
  | .lst xs, [.int i] => (intsD xs).bind fun js => (js.findIdx? (· == i)).map fun k => (.int (k : Nat), false)
  | .rol xs, [.int i] => (intsD xs).bind fun js => (js.findIdx? (· == i)).map fun k => (.int (k : Nat), false)
  | _, _ => none
def lstD : D → Bool
  | .lst _ => true
  | .rol _ => true
  | _ => false
def reprS : D → Option Str
  | .non => some "None"
  | .bl b => some (if b then "True" else "False")
  | .int i => if i.natAbs.log2 < 1920 then some (toString i) else none
  | .str x => some (reprText x)
  | _ => none
def reprL (f : D → Option Str) : List D → Option (List Str)
  | [] => some []
  | d :: ds => (f d).bind fun t => (reprL f ds).map (t :: ·)
/-- the parts of an own __repr__, one behind the other -/
def reprI (f : D → Option Str) (fs : List (Str × D)) : Str → List RP → Option Str
  | acc, [] => some acc
  | acc, .lit x :: r => reprI f fs (acc ++ x) r
  | acc, .fld g :: r => (fs.lookup g).bind fun d => (f d).bind fun t => reprI f fs (acc ++ t) r
/-- repr of a tree at most n deep -/
def reprN (P : Pg) : Nat → D → Option Str
  | 0, d => reprS d
  | n + 1, d => match d with
    | .lst xs => (reprL (reprN P n) xs).map PySem.listText
    | .tup xs => (reprL (reprN P n) xs).map PySem.tupleText
    | .ins c fs => (P.cls[c]?).bind fun ci => if ci.rep.isEmpty then none else reprI (reprN P n) fs Str.empty ci.rep
    | d => reprS d
def reprTop (P : Pg) (d : D) : RO := (reprN P 8 d).bind fun t => if okSz t.length then some (.str t, false) else none
def biopP (P : Pg) (b : Bi) (ds : List D) : RO := match b, ds with
  | .repr, [d] => reprTop P d
  | .isc c, [.ins c' _] => if (P.cls[c']?).isSome then some (.bl (decide (c' = c)), false) else none
  | .isc _, [d] => (tyN d).map fun _ => (.bl false, false)
  | b, ds => biop b ds
def roK (r : RO) (Q : D → Bool → Prop) : Prop := match r with
  | some (d, fr) => Q d fr
  | none => False
def bK (r : Option Bool) (Q : Bool → Prop) : Prop := match r with
  | some b => Q b
  | none => False

section
variable (P : Pg) (Φ : PhT)
/-- a call of a def of the program -/
def phi (f : Nat) (ds : List D) (cs : CS) (Q : D → Bool → CS → Prop) (E : Exn → CS → Prop) : Prop := P.ar f = some ds.length ∧ Φ f ds cs Q E
/-- == by the own def of an instance -/
def eqW (c : Nat) (d1 d2 : D) (env : Env) (cs : CS) (W : WT) (Q : Bool → Env → CS → Prop) : Prop :=
  match P.meth c "__eq__", insOf cs d2 with
  | some g, some (c2, _) => (P.cls[c2]?).isSome = true ∧ phi P Φ g [d1, d2] cs (fun d _ cs' => ∃ b, d = .bl b ∧ Q b env cs') (fun x cs' => W x env cs')
  | some g, none => (tyN (dv cs d2)).isSome = true ∧ phi P Φ g [d1, d2] cs (fun d _ cs' => ∃ b, d = .bl b ∧ Q b env cs') (fun x cs' => W x env cs')
  | _, _ => False
/-- a comparison -/
def inW (d1 d2 : D) (env : Env) (cs : CS) (W : WT) (Q : Bool → Env → CS → Prop) : Prop := match insOf cs d2 with
  | some (c, _) => (match P.meth c "__contains__" with
    | some g => phi P Φ g [d2, d1] cs (fun d _ cs' => ∃ b, d = .bl b ∧ Q b env cs') (fun x cs' => W x env cs')
    | none => False)
  | none => bK (cmpop .In (dv cs d1) (dv cs d2)) fun b => Q b env cs
def cmpW (op : CmpOp) (d1 d2 : D) (env : Env) (cs : CS) (W : WT) (Q : Bool → Env → CS → Prop) : Prop :=
  match op, insOf cs d1 with
  | .Eq, some (c, _) => eqW P Φ c d1 d2 env cs W Q
  | .NotEq, some (c, _) => eqW P Φ c d1 d2 env cs W fun b => Q (!b)
  | .In, _ => inW P Φ d1 d2 env cs W Q
  | _, _ => bK (cmpop op (dv cs d1) (dv cs d2)) fun b => Q b env cs
def binW (op : Operator) (d1 d2 : D) (env : Env) (cs : CS) (W : WT) (Q : QT) : Prop :=
  match op, insOf cs d2 with
  | .Add, some (c, _) => (match d1, P.meth c "__radd__" with
    | .str _, some g => phi P Φ g [d2, d1] cs (fun d fr cs' => Q d fr env cs') (fun x cs' => W x env cs')
    | _, _ => False)
  | _, _ => roK (binop op (dv cs d1) (dv cs d2)) fun d fr => Q d fr env cs
def subW (d1 d2 : D) (env : Env) (cs : CS) (W : WT) (Q : QT) : Prop :=
  match insOf cs d1 with
  | some (c, _) => (match P.meth c "__getitem__" with
    | some g => phi P Φ g [d1, d2] cs (fun d fr cs' => Q d fr env cs') (fun x cs' => W x env cs')
    | none => False)
  | none => match ixD (dv cs d1) d2 with
    | some d => Q d false env cs
    | none => False
def fldW (d : D) (f : Str) (env : Env) (cs : CS) (W : WT) (Q : QT) : Prop :=
  match insOf cs d with
  | some (c, fs) => match P.prop c f with
    | some g => phi P Φ g [d] cs (fun d fr cs' => Q d fr env cs') (fun _ _ => False)
    | none => match fs.lookup f with
      | some v => P.isF c f = true ∧ Q v false env cs
      | none => match P.con c f with
        | some v => Q v false env cs
        | none => False
  | none => False
/-- the method that an instance has -/
def mL (P : Pg) (m : Str) (d : D) (cs : CS) : Option Nat := match insOf cs d with
  | some (c, fs) => (match fs.lookup m with
    | none => P.meth c m
    | some _ => none)
  | none => none
def makeW (c f : Nat) (ds : List D) (env : Env) (cs : CS) (W : WT) (Q : QT) : Prop :=
  ∀ a, cs a = none → phi P Φ f (.cell a :: ds) (cset cs a (.ins c [])) (fun r _ cs' => r = .non ∧ match cs' a with
      | some (.ins c' fs) => c' = c ∧ Q (.ins c fs) false env (cdel cs' a)
      | _ => False) (fun x cs' => W x env (cdel cs' a))
def arr {α : Type} (perm : List Nat) (ds : List α) : List α := perm.filterMap fun i => ds[i]?
def makekW (c f : Nat) (ds : List D) (kn : List Str) (zs : List D) (perm : List Nat) (env : Env) (cs : CS) (W : WT) (Q : QT) : Prop :=
  P.kwB f (ds.length + 1) kn perm = true ∧ zs.length = kn.length ∧ ∀ a, cs a = none → Φ f (arr perm ((.cell a :: ds) ++ zs)) (cset cs a (.ins c [])) (fun r _ cs' => r = .non ∧ match cs' a with
      | some (.ins c' fs) => c' = c ∧ Q (.ins c fs) false env (cdel cs' a)
      | _ => False) (fun x cs' => W x env (cdel cs' a))
def frzW (i : Nat) (env : Env) (cs : CS) (Q : QT) : Prop := match env[i]? with
  | some (some (.cell a)) => match cs a with
    | some (.lst xs) => Q (.lst xs) false (env.set i (some (.lst xs))) (cdel cs a)
    | some (.dic xs) => Q (.dic xs) false (env.set i (some (.dic xs))) (cdel cs a)
    | _ => False
  | some (some d) => Q d false env cs
  | _ => False
def ownW (i : Nat) (env : Env) (cs : CS) (Q : QT) : Prop := match env[i]? with
  | some (some (.cell a)) => match cs a with
    | some (.lst xs) => Q (.lst xs) true (env.set i none) (cdel cs a)
    | some (.dic xs) => Q (.dic xs) true (env.set i none) (cdel cs a)
    | _ => False
  | _ => False
/-- a target o[i] = d -/
def setW (o i d : D) (cs : CS) (k : CS → Prop) : Prop := match o, i with
  | .cell a, .int i => match cs a with
    | some (.lst xs) => match ixN xs.length i with
      | some j => k (cset cs a (.lst (xs.set j d)))
      | none => False
    | _ => False
  | _, _ => False
def sfW (o : D) (f : Str) (d : D) (cs : CS) (k : CS → Prop) : Prop := match o with
  | .cell a => match cs a with
    | some (.ins c fs) => P.isF c f = true ∧ fs.length < 1000 ∧ k (cset cs a (.ins c (putE f d fs)))
    | _ => False
  | _ => False
/-- a list of ours gets one more -/
def appW (a : Addr) (d : D) (cs : CS) (k : CS → Prop) : Prop := match cs a with
  | some (.lst xs) => xs.length < sizeLine ∧ k (cset cs a (.lst (xs ++ [d])))
  | _ => False
def forL (f : D → Env → CS → KT → Prop) : List D → Env → CS → KT → Prop
  | [], env, cs, k => k env cs
  | d :: ds, env, cs, k => f d env cs fun env' cs' => forL f ds env' cs' k
mutual
def wpE : Ex → Env → CS → WT → QT → Prop
  | .var i, env, cs, _, Q => (match env[i]? with
    | some (some d) => Q d false env cs
    | _ => False)
  | .frz i, env, cs, _, Q => frzW i env cs Q
  | .own i, env, cs, _, Q => ownW i env cs Q
  | .non, env, cs, _, Q => Q .non false env cs
  | .bl b, env, cs, _, Q => Q (.bl b) false env cs
  | .int i, env, cs, _, Q => Q (.int i) false env cs
  | .str x, env, cs, _, Q => Q (.str x) false env cs
  | .bin op a b, env, cs, W, Q => wpE a env cs W fun d1 _ env1 cs1 => wpE b env1 cs1 W fun d2 _ env2 cs2 => binW P Φ op d1 d2 env2 cs2 W Q
  | .neg a, env, cs, W, Q => wpE a env cs W fun d1 _ env1 cs1 => (match d1 with
    | .int i => Q (.int (-i)) false env1 cs1
    | _ => False)
  | .cmp op a b, env, cs, W, Q => wpE a env cs W fun d1 _ env1 cs1 => wpE b env1 cs1 W fun d2 _ env2 cs2 => cmpW P Φ op d1 d2 env2 cs2 W fun b env3 cs3 => Q (.bl b) false env3 cs3
  | .chn o1 o2 a b c, env, cs, W, Q => wpE a env cs W fun d1 _ env1 cs1 => wpE b env1 cs1 W fun d2 _ env2 cs2 => bK (cmpop o1 (dv cs2 d1) (dv cs2 d2)) fun k =>
      if k = true then wpE c env2 cs2 W fun d3 _ env3 cs3 => bK (cmpop o2 (dv cs3 d2) (dv cs3 d3)) fun k2 => Q (.bl k2) false env3 cs3 else Q (.bl false) false env2 cs2
  | .and a b, env, cs, W, Q => wpE a env cs W fun d1 _ env1 cs1 => (match d1 with
    | .bl true => wpE b env1 cs1 W Q
    | .bl false => Q (.bl false) false env1 cs1
    | _ => False)
  | .or a b, env, cs, W, Q => wpE a env cs W fun d1 _ env1 cs1 => (match d1 with
    | .bl true => Q (.bl true) false env1 cs1
    | .bl false => wpE b env1 cs1 W Q
    | _ => False)
  | .one a, env, cs, W, Q => wpE a env cs W Q
  | .not a, env, cs, W, Q => wpE a env cs W fun d1 _ env1 cs1 => (match d1 with
    | .bl b => Q (.bl (!b)) false env1 cs1
    | _ => False)
  | .ite c a b, env, cs, W, Q => wpT c env cs W fun k env1 cs1 => if k = true then wpE a env1 cs1 W Q else wpE b env1 cs1 W Q
  | .lst es, env, cs, W, Q => wpA es env cs W fun ds env1 cs1 => ds.length ≤ sizeLine ∧ Q (.lst ds) true env1 cs1
  | .tup es, env, cs, W, Q => wpA es env cs W fun ds env1 cs1 => ds.length ≤ sizeLine ∧ Q (.tup ds) false env1 cs1
  | .sub a i, env, cs, W, Q => wpE a env cs W fun d1 _ env1 cs1 => wpE i env1 cs1 W fun d2 _ env2 cs2 => subW P Φ d1 d2 env2 cs2 W Q
  | .slc a lo hi, env, cs, W, Q => wpE a env cs W fun d1 _ env1 cs1 => wpO lo env1 cs1 W fun x env2 cs2 => wpO hi env2 cs2 W fun y env3 cs3 => roK (slD (dv cs3 d1) x y) fun d fr => Q d fr env3 cs3
  | .call f es, env, cs, W, Q => wpA es env cs W fun ds env1 cs1 => phi P Φ f ds cs1 (fun d fr cs' => Q d fr env1 cs') (fun x cs' => W x env1 cs')
  | .callk f es kn ks perm, env, cs, W, Q => wpA es env cs W fun ds env1 cs1 => wpA ks env1 cs1 W fun zs env2 cs2 => P.kwB f ds.length kn perm = true ∧ zs.length = kn.length ∧ Φ f (arr perm (ds ++ zs)) cs2 (fun d fr cs' => Q d fr env2 cs') (fun x cs' => W x env2 cs')
  | .make c f es, env, cs, W, Q => wpA es env cs W fun ds env1 cs1 => makeW P Φ c f ds env1 cs1 W Q
  | .makek c f es kn ks perm, env, cs, W, Q => wpA es env cs W fun ds env1 cs1 => wpA ks env1 cs1 W fun zs env2 cs2 => makekW P Φ c f ds kn zs perm env2 cs2 W Q
  | .stat c m f es, env, cs, W, Q => wpA es env cs W fun ds env1 cs1 => phi P Φ f ds cs1 (fun d fr cs' => Q d fr env1 cs') (fun x cs' => W x env1 cs')
  | .statk c m f es kn ks perm, env, cs, W, Q => wpA es env cs W fun ds env1 cs1 => wpA ks env1 cs1 W fun zs env2 cs2 => P.kwB f ds.length kn perm = true ∧ zs.length = kn.length ∧ Φ f (arr perm (ds ++ zs)) cs2 (fun d fr cs' => Q d fr env2 cs') (fun x cs' => W x env2 cs')
  | .rev a, env, cs, W, Q => wpE a env cs W fun d1 _ env1 cs1 => roK (revD (dv cs1 d1)) fun d fr => Q d fr env1 cs1
  | .dic0, env, cs, _, Q => Q (.dic []) true env cs
  | .isi2 t u e, env, cs, W, Q => wpE e env cs W fun d _ env1 cs1 => roK ((isi2D t u (dv cs1 d)).map fun b => (.bl b, false)) fun d fr => Q d fr env1 cs1
  | .sset e, env, cs, W, Q => wpE e env cs W fun d1 _ env1 cs1 => (match setItems (dv cs1 d1) with
    | some xs => (∃ M : List Str, M.length < 64 ∧ ∀ x ∈ xs, x ∈ M) ∧ ∀ ys : List Str, PyProof.Rows.sortedS ys = true → ys.Nodup → (∀ x, x ∈ ys ↔ x ∈ xs) → Q (.lst (ys.map D.str)) true env1 cs1
    | none => False)
  | .lrg e, env, cs, W, Q => wpE e env cs W fun d _ env1 cs1 => (match d with
    | .int j => (0 ≤ j ∧ j ≤ 16777216) ∧ Q (.lst (rngI 0 j.toNat)) true env1 cs1
    | _ => False)
  | .dic1 k i, env, cs, _, Q => Q (.dic [(.str k, .int i)]) true env cs
  | .mcall m o es, env, cs, W, Q => wpE o env cs W fun d _ env1 cs1 => (match mL P m d cs1 with
    | some g => wpA es env1 cs1 W fun ds env2 cs2 => phi P Φ g (d :: ds) cs2 (fun r fr cs' => Q r fr env2 cs') (fun x cs' => W x env2 cs')
    | none => False)
  | .mcallk m o es kn ks perm, env, cs, W, Q => wpE o env cs W fun d _ env1 cs1 => (match mL P m d cs1 with
    | some g => wpA es env1 cs1 W fun ds env2 cs2 => wpA ks env2 cs2 W fun zs env3 cs3 => P.kwB g (ds.length + 1) kn perm = true ∧ zs.length = kn.length ∧ Φ g (arr perm ((d :: ds) ++ zs)) cs3 (fun r fr cs' => Q r fr env3 cs') (fun x cs' => W x env3 cs')
    | none => False)
  | .fld o f, env, cs, W, Q => wpE o env cs W fun d _ env1 cs1 => fldW P Φ d f env1 cs1 W Q
  | .ccon c f, env, cs, W, Q => (match P.con c f with
    | some v => Q v false env cs
    | none => False)
  | .bi b es, env, cs, W, Q => wpA es env cs W fun ds env1 cs1 => roK (biopP P b (ds.map (dv cs1))) fun d fr => Q d fr env1 cs1
  | .bm m o es, env, cs, W, Q => wpE o env cs W fun d _ env1 cs1 => (match d with
    | .str y => wpA es env1 cs1 W fun ds env2 cs2 => roK (bmop m (.str y) (ds.map (dv cs2))) fun d fr => Q d fr env2 cs2
    | d => m = .index ∧ lstD (dv cs1 d) = true ∧ wpA es env1 cs1 W fun ds env2 cs2 => roK (lixop (dv cs2 d) (ds.map (dv cs2))) fun d fr => Q d fr env2 cs2)
  | .lc own tg src cond elt, env, cs, W, Q => wpR src env cs W fun its env1 cs1 => ∀ a, cs1 a = none →
      forL (fun d env cs k => wpG tg d (wipeE env (own.map (·.2))) cs WN fun env1 cs1 => wpC cond env1 cs1 WN fun b env2 cs2 =>
        if b = true then wpE elt env2 cs2 WN fun d _ env3 cs3 => appW a d cs3 (k env3) else k env2 cs2) its env1 (cset cs1 a (.lst []))
        fun env2 cs2 => (match cs2 a with
          | some (.lst xs) => Q (.lst xs) true (wipeE env2 (own.map (·.2))) (cdel cs2 a)
          | _ => False)
  | .fs es, env, cs, W, Q => wpF es Str.empty env cs W fun x env1 cs1 => Q (.str x) false env1 cs1
  | .new e, env, cs, W, Q => wpE e env cs W fun d fr env1 cs1 => (match fr, d with
    | true, .lst xs => ∀ a, cs1 a = none → Q (.cell a) false env1 (cset cs1 a (.lst xs))
    | true, .dic xs => ∀ a, cs1 a = none → Q (.cell a) false env1 (cset cs1 a (.dic xs))
    | _, _ => False)
def wpF : Exs → Str → Env → CS → WT → (Str → Env → CS → Prop) → Prop
  | .nil, acc, env, cs, _, Q => Q acc env cs
  | .cons (.str x) es, acc, env, cs, W, Q => (acc ++ x).length ≤ sizeLine ∧ wpF es (acc ++ x) env cs W Q
  | .cons (.bi .repr (.cons e .nil)) es, acc, env, cs, W, Q => wpE e env cs W fun d _ env1 cs1 => (match d with
    | .str y => (reprText y).length ≤ sizeLine ∧ (acc ++ reprText y).length ≤ sizeLine ∧ wpF es (acc ++ reprText y) env1 cs1 W Q
    | _ => False)
  | _, _, _, _, _, _ => False
def wpA : Exs → Env → CS → WT → QA → Prop
  | .nil, env, cs, _, Q => Q [] env cs
  | .cons e es, env, cs, W, Q => wpE e env cs W fun d _ env1 cs1 => wpA es env1 cs1 W fun ds env2 cs2 => Q (d :: ds) env2 cs2
def wpO : Ox → Env → CS → WT → (Option Int → Env → CS → Prop) → Prop
  | .none, env, cs, _, Q => Q none env cs
  | .some e, env, cs, W, Q => wpE e env cs W fun d _ env1 cs1 => (match d with
    | .int i => Q (some i) env1 cs1
    | _ => False)
def wpC : Co → Env → CS → WT → (Bool → Env → CS → Prop) → Prop
  | .none, env, cs, _, Q => Q true env cs
  | .some c, env, cs, W, Q => wpT c env cs W Q
def wpT : Ct → Env → CS → WT → (Bool → Env → CS → Prop) → Prop
  | .val e, env, cs, W, Q => wpE e env cs W fun d _ env1 cs1 => bK (truth (dv cs1 d)) fun b => Q b env1 cs1
  | .and a b, env, cs, W, Q => wpT a env cs W fun k env1 cs1 => if k = true then wpT b env1 cs1 W Q else Q false env1 cs1
  | .or a b, env, cs, W, Q => wpT a env cs W fun k env1 cs1 => if k = true then Q true env1 cs1 else wpT b env1 cs1 W Q
  | .one a, env, cs, W, Q => wpT a env cs W Q
  | .not a, env, cs, W, Q => wpT a env cs W fun k env1 cs1 => Q (!k) env1 cs1
def wpG : Tg → D → Env → CS → WT → KT → Prop
  | .nm i, d, env, cs, _, k => k (env.set i (some d)) cs
  | .tup ts, d, env, cs, W, k => (match dv cs d with
    | .tup xs => ts.len = xs.length ∧ wpGs ts xs env cs W k
    | _ => False)
  | .sub o i, d, env, cs, W, k => wpE o env cs W fun d1 _ env1 cs1 => wpE i env1 cs1 W fun d2 _ env2 cs2 => setW d1 d2 d cs2 fun cs3 => k env2 cs3
  | .fld o f, d, env, cs, W, k => wpE o env cs W fun d1 _ env1 cs1 => sfW P d1 f d cs1 fun cs2 => k env1 cs2
def wpGs : Tgs → List D → Env → CS → WT → KT → Prop
  | .nil, [], env, cs, _, k => k env cs
  | .cons t ts, d :: ds, env, cs, W, k => wpG t d env cs W fun env1 cs1 => wpGs ts ds env1 cs1 W k
  | _, _, _, _, _, _ => False
def wpR : Sr → Env → CS → WT → (List D → Env → CS → Prop) → Prop
  | .it e, env, cs, W, Q => wpE e env cs W fun d _ env1 cs1 => (match items d with
    | some ds => Q ds env1 cs1
    | none => False)
  | .rng1 e, env, cs, W, Q => wpE e env cs W fun d _ env1 cs1 => (match d with
    | .int j => (-(2 ^ 62) ≤ j ∧ j < 2 ^ 62) ∧ Q (rngI 0 j.toNat) env1 cs1
    | _ => False)
  | .rng2 a b, env, cs, W, Q => wpE a env cs W fun d1 _ env1 cs1 => wpE b env1 cs1 W fun d2 _ env2 cs2 => (match d1, d2 with
    | .int i, .int j => (-(2 ^ 62) ≤ i ∧ i < 2 ^ 62 ∧ -(2 ^ 62) ≤ j ∧ j < 2 ^ 62) ∧ Q (rngI i (j - i).toNat) env2 cs2
    | _, _ => False)
end
structure Kd where
  nx : KT
  rt : D → Bool → CS → Prop
  bk : KT := fun _ _ => False
  ct : KT := fun _ _ => False
def whN (c : Env → CS → (Bool → KT) → Prop) (b : Env → CS → KT → Prop) (nx : KT) : Nat → KT
  | 0, _, _ => False
  | n + 1, env, cs => c env cs fun k env1 cs1 => if k = true then b env1 cs1 (whN c b nx n) else nx env1 cs1
mutual
def wpS : Sm → Env → CS → WT → Kd → Prop
  | .pass, env, cs, _, k => k.nx env cs
  | .brk, env, cs, _, k => k.bk env cs
  | .cont, env, cs, _, k => k.ct env cs
  | .expr e, env, cs, W, k => wpE P Φ e env cs W fun _ _ env1 cs1 => k.nx env1 cs1
  | .app i e, env, cs, W, k => (match env[i]? with
    | some (some (.cell a)) => (∃ xs, cs a = some (.lst xs)) ∧ wpE P Φ e env cs W fun d _ env1 cs1 => appW a d cs1 (k.nx env1)
    | _ => False)
  | .ret e, env, cs, W, k => wpE P Φ e env cs W fun d fr _ cs1 => k.rt d fr cs1
  | .retN, _, cs, _, k => k.rt .non false cs
  | .asg t e, env, cs, W, k => wpE P Φ e env cs W fun d _ env1 cs1 => wpG P Φ t d env1 cs1 W k.nx
  | .par i j a b, env, cs, W, k => wpE P Φ a env cs W fun d _ env1 cs1 => wpE P Φ b env1 cs1 W fun e _ env2 cs2 => k.nx ((env2.set i (some d)).set j (some e)) cs2
  | .asgN i e, env, cs, W, k => wpE P Φ e env cs W fun d fr env1 cs1 => (match fr, d with
    | true, .lst xs => ∀ a, cs1 a = none → k.nx (env1.set i (some (.cell a))) (cset cs1 a (.lst xs))
    | true, .dic xs => ∀ a, cs1 a = none → k.nx (env1.set i (some (.cell a))) (cset cs1 a (.dic xs))
    | _, _ => False)
  | .ifs c a b, env, cs, W, k => wpT P Φ c env cs W fun t env1 cs1 => if t = true then wpB a env1 cs1 W k else wpB b env1 cs1 W k
  | .for_ t s body, env, cs, W, k => wpR P Φ s env cs W fun its env1 cs1 =>
      forL (fun d env cs k1 => wpG P Φ t d env cs W fun env1 cs1 => wpB body env1 cs1 W { nx := k1, ct := k1, bk := k.nx, rt := k.rt }) its env1 cs1 k.nx
  | .while_ c body, env, cs, W, k => ∃ n, whN (fun env cs Q => wpT P Φ c env cs W Q) (fun env cs k1 => wpB body env cs W { nx := k1, ct := k1, bk := k.nx, rt := k.rt }) k.nx n env cs
  | .raise c f es, env, cs, W, k => False
  | .never, _, _, _, _ => False
def wpB : Sms → Env → CS → WT → Kd → Prop
  | .nil, env, cs, _, k => k.nx env cs
  | .cons s r, env, cs, W, k => wpS s env cs W { k with nx := fun env1 cs1 => wpB r env1 cs1 W k }
end
end
end Dw
set_option Elab.async false
set_option linter.all false
set_option maxRecDepth 100000
set_option maxHeartbeats 2000000
/-! The written text and its short form. -/
namespace Dw
open PySem L2

def vis (sc : Scope) (x : Str) : Bool := match sc.names.lookup x with
  | some .local => true
  | some .cell => true
  | some .free => true
  | _ => false
def loc (sc : Scope) (x : Str) : Bool := match sc.names.lookup x with
  | some .local => true
  | _ => false
def glob (sc : Scope) (x : Str) : Bool := match sc.names.lookup x with
  | some .globalImplicit => true
  | _ => false
def nsp (x : Str) : Bool := !(x == ("__debug__" : Str)) && !(x == ("__classdict__" : Str))
def notStar : Expr → Bool
  | .Starred _ _ => false
  | _ => true
def notSlice : Expr → Bool
  | .Slice _ _ _ _ => false
  | _ => true
def notSet : Expr → Bool
  | .Set _ _ _ => false
  | .SetComp _ _ _ _ => false
  | _ => true
def noSuper : Expr → Bool
  | .Call (.Name _ _) [] [] _ => false
  | _ => true
/-- not a test by its own rule -/
def plainT : Expr → Bool
  | .UnaryOp .Not _ _ => false
  | .BoolOp _ _ _ => false
  | .IfExp _ _ _ _ => false
  | .Compare _ _ _ _ => false
  | _ => true
def tyQ : List String := ["str", "int", "bool", "list", "tuple", "dict"]
def biName : Bi → Option (Str × Bool)
  | .len => some ("len", false)
  | .abs => some ("abs", false)
  | .max => some ("max", false)
  | .min => some ("min", false)
  | .int => some ("int", true)
  | .all => some ("all", false)
  | .any => some ("any", false)
  | .sum => some ("sum", false)
  | .list => some ("list", true)
  | .tuple => some ("tuple", true)
  | .divmod => some ("divmod", false)
  | .repr => some ("repr", false)
  | .sorted => some ("sorted", false)
  | .isi _ => none
  | .isc _ => none
def bmName : Bm → Str
  | .join => "join"
  | .find => "find"
  | .isascii => "isascii"
  | .isalpha => "isalpha"
  | .islower => "islower"
  | .strip => "strip"
  | .index => "index"
  | .append => "append"
/-- a comprehension's value, to be kept by its own rule -/
def isComp : Expr → Bool
  | .ListComp _ _ _ _ => true
  | .SetComp _ _ _ _ => true
  | .DictComp _ _ _ _ _ => true
  | _ => false
def isTup : Expr → Bool
  | .Tuple _ _ _ => true
  | .List _ _ => true
  | _ => false
/-- a comprehension kept by its own rule -/
def swp (sc : Scope) : Expr → Expr → Bool
  | .Name y py, .ListComp _ _ scope pos => loc sc y && ((py.line == pos.line) && !(scope.names.any fun (n, k) => n == y && (k == .local || k == .cell)))
  | _, _ => false
def cel (sc : Scope) (x : Str) : Bool := match sc.names.lookup x with
  | some .cell => true
  | _ => false
/-- a name that a block reads, too -/
def celN (sc : Scope) : Expr → Bool
  | .Name y _ => cel sc y
  | _ => false
/-- two names, one of them read by a block, too -/
def celT (sc : Scope) : Expr → Bool
  | .Tuple [.Name x _, .Name y _] _ _ => cel sc x || cel sc y
  | _ => false
/-- two different local names on one line get two values -/
def parOk (sc : Scope) (x y : Str) (px py : Pos) (a b : Expr) : Bool :=
  loc sc x && (loc sc y && (!(decide (x = y)) && ((py.line == px.line) && (notStar a && (notStar b && (!([a, b].all (foldedForSure 8)) && !([a, b].all (constantsAlone 8))))))))
def kwNames : List Keyword → List Str
  | [] => []
  | ⟨some x, _, _⟩ :: r => x :: kwNames r
  | ⟨none, _, _⟩ :: r => "*" :: kwNames r
mutual
/-- a target of names alone, these among the block's own -/
def tgOwn (own : List Nat) : Tg → Bool
  | .nm i => own.contains i
  | .tup ts => tgsOwn own ts
  | _ => false
def tgsOwn (own : List Nat) : Tgs → Bool
  | .nil => true
  | .cons t ts => tgOwn own t && tgsOwn own ts
end
section
variable (P : Pg) (N : List Str)
/-- a name that the program's top has, called in a def -/
def gname (sc : Scope) (x : Str) (g : Glo) : Bool := glob sc x && (nsp x && (match P.glo.lookup x, g with
  | some (.fn i), .fn j => decide (i = j)
  | some (.cls i), .cls j => decide (i = j)
  | _, _ => false))
def bname (sc : Scope) (x : Str) : Bool := glob sc x && (nsp x && (P.free.contains x && !(x == ("__name__" : Str))))
mutual
def chE (sc : Scope) : Ex → Expr → Bool
  | .var i, .Name x _ => decide (N[i]? = some x) && (vis sc x && nsp x)
  | .frz i, .Name x _ => decide (N[i]? = some x) && (vis sc x && nsp x)
  | .own i, .Name x _ => decide (N[i]? = some x) && (vis sc x && nsp x)
  | .non, .Constant .none _ _ => true
  | .bl b, .Constant (.bool c) _ _ => decide (b = c)
  | .int i, .Constant (.int j) _ _ => decide (i = j)
  | .str x, .Constant (.str y) _ _ => decide (x = y)
  | .bin op a b, .BinOp e op' f _ => decide (op = op') && (chE sc a e && chE sc b f)
  | .neg a, .UnaryOp .USub e _ => chE sc a e
  | .cmp op a b, .Compare e [op'] [f] _ => decide (op = op') && (notSet f && (chE sc a e && chE sc b f))
  | .chn o1 o2 a b c, .Compare e [p1, p2] [f, g] _ => decide (o1 = p1) && (decide (o2 = p2) && (notSet g && (chE sc a e && (chE sc b f && chE sc c g))))
  | .and a b, .BoolOp .And (e :: f :: r) p => chE sc a e && chE sc b (.BoolOp .And (f :: r) p)
  | .or a b, .BoolOp .Or (e :: f :: r) p => chE sc a e && chE sc b (.BoolOp .Or (f :: r) p)
  | .one a, .BoolOp _ [e] _ => chE sc a e
  | .not a, .UnaryOp .Not e _ => chE sc a e
  | .ite c a b, .IfExp t e f _ => chT sc c t && (chE sc a e && chE sc b f)
  | .lst es, .List l _ => chA sc es l
  | .tup es, .Tuple l _ _ => chA sc es l
  | .sub a i, .Subscript e f _ => notSlice f && (chE sc a e && chE sc i f)
  | .slc a lo hi, .Subscript e (.Slice l h none _) _ => chE sc a e && (chO sc lo l && chO sc hi h)
  | .call f es, .Call (.Name x _) l [] _ => gname P sc x (.fn f) && chA sc es l
  | .callk f es kn ks perm, .Call (.Name x _) l kws _ => gname P sc x (.fn f) && (decide (kn = kwNames kws) && (chA sc es l && chK sc ks kws))
  | .make c f es, .Call (.Name x _) l [] _ => gname P sc x (.cls c) && (decide (P.initOf c = some f) && chA sc es l)
  | .makek c f es kn ks perm, .Call (.Name x _) l kws _ => gname P sc x (.cls c) && (decide (P.initOf c = some f) && (decide (kn = kwNames kws) && (chA sc es l && chK sc ks kws)))
  | .stat c m f es, .Call (.Attribute (.Name x _) m' ap) l [] cp => gname P sc x (.cls c) && (decide (m = m') && (decide (P.sta c m = some f) && ((ap.endLine == cp.line) && (decide (l.length < 20) && chA sc es l))))
  | .statk c m f es kn ks perm, .Call (.Attribute (.Name x _) m' ap) l kws cp => gname P sc x (.cls c) && (decide (m = m') && (decide (P.sta c m = some f) && (decide (kn = kwNames kws) && ((ap.endLine == cp.line) && (decide (l.length + kws.length < 20) && (chA sc es l && chK sc ks kws))))))
  | .rev a, .Subscript e (.Slice none none (some (.UnaryOp .USub (.Constant (.int 1) _ _) _)) _) _ => chE sc a e
  | .dic0, .Dict [] [] _ => true
  | .isi2 t u e, .Call (.Name x _) [a, .Tuple [.Name y _, .Name z _] _ _] [] _ => decide (x = ("isinstance" : Str)) && (bname P sc x && (decide (t ∈ tyQ) && (decide (y = Str.ofString t) && (bname P sc y && (decide (u ∈ tyQ) && (decide (z = Str.ofString u) && (bname P sc z && (notStar a && chE sc e a))))))))
  | .sset ex, .Call (.Name x _) [.Call (.Name y _) [a] [] _] [] _ => decide (x = ("sorted" : Str)) && (decide (y = ("set" : Str)) && (bname P sc x && (bname P sc y && (notStar a && chE sc ex a))))
  | .lrg ex, .Call (.Name x _) [.Call (.Name y _) [a] [] _] [] _ => decide (x = ("list" : Str)) && (decide (y = ("range" : Str)) && (bname P sc x && (bname P sc y && (notStar a && chE sc ex a))))
  | .dic1 k i, .Dict [some (.Constant (.str y) _ _)] [.Constant (.int j) _ _] _ => decide (k = y) && decide (i = j)
  | .mcall m o es, .Call (.Attribute e m' ap) l [] cp => decide (m = m') && (noSuper e && ((ap.endLine == cp.line) && (decide (l.length < 20) && (chE sc o e && chA sc es l))))
  | .mcallk m o es kn ks perm, .Call (.Attribute e m' ap) l kws cp => decide (m = m') && (decide (kn = kwNames kws) && (noSuper e && ((ap.endLine == cp.line) && (decide (l.length + kws.length < 20) && (chE sc o e && (chA sc es l && chK sc ks kws))))))
  | .fld o f, .Attribute e f' _ => decide (f = f') && (noSuper e && chE sc o e)
  | .ccon c f, .Attribute (.Name x _) f' _ => decide (f = f') && gname P sc x (.cls c)
  | .bi (.isi t) (.cons e .nil), .Call (.Name x _) [a, .Name y _] [] _ => decide (x = ("isinstance" : Str)) && (bname P sc x && (decide (t ∈ tyQ) && (decide (y = Str.ofString t) && (bname P sc y && (notStar a && chE sc e a)))))
  | .bi (.isc c) (.cons e .nil), .Call (.Name x _) [a, .Name y _] [] _ => decide (x = ("isinstance" : Str)) && (bname P sc x && (gname P sc y (.cls c) && (notStar a && chE sc e a)))
  | .bi b es, .Call (.Name x _) (a :: l) [] _ => (match biName b with
      | some (y, _) => decide (x = y) && bname P sc x
      | none => false) && chA sc es (a :: l)
  | .bm m o es, .Call (.Attribute e m' ap) l [] cp => decide (m' = bmName m ∧ m ≠ .append) && (noSuper e && ((ap.endLine == cp.line) && (decide (l.length < 20) && (chE sc o e && chA sc es l))))
  | .lc own tg src cond elt, .ListComp e [⟨t, it, ifs, 0⟩] scope _ =>
      blkC N sc scope own && (tgOwn (own.map (·.2)) tg && (chR sc src it && (chG false (relS scope sc) tg t && (chC (relS scope sc) cond ifs && chE (relS scope sc) elt e))))
  | .fs es, .JoinedStr (a :: b :: l) _ => chF sc es (a :: b :: l)
  | .new ex, e => !(isComp e) && chE sc ex e
  | _, _ => false
def chA (sc : Scope) : Exs → List Expr → Bool
  | .nil, [] => true
  | .cons e es, a :: l => notStar a && (chE sc e a && chA sc es l)
  | _, _ => false
def chK (sc : Scope) : Exs → List Keyword → Bool
  | .nil, [] => true
  | .cons e es, ⟨some _, a, _⟩ :: l => chE sc e a && chK sc es l
  | _, _ => false
/-- the parts of an f-string -/
def chF (sc : Scope) : Exs → List Expr → Bool
  | .nil, [] => true
  | .cons (.str x) es, .Constant (.str y) _ _ :: l => decide (x = y) && chF sc es l
  | .cons (.bi .repr (.cons e .nil)) es, .FormattedValue a 114 none _ :: l => chE sc e a && chF sc es l
  | _, _ => false
def chO (sc : Scope) : Ox → Option Expr → Bool
  | .none, none => true
  | .some e, some a => chE sc e a
  | _, _ => false
def chC (sc : Scope) : Co → List Expr → Bool
  | .none, [] => true
  | .some c, [a] => chT sc c a
  | _, _ => false
def chT (sc : Scope) : Ct → Expr → Bool
  | .val (.cmp op a b), .Compare e [op'] [f] _ => decide (op = op') && (notSet f && (chE sc a e && chE sc b f))
  | .val (.chn o1 o2 a b c), .Compare e [p1, p2] [f, g] _ => decide (o1 = p1) && (decide (o2 = p2) && (notSet g && (chE sc a e && (chE sc b f && chE sc c g))))
  | .val x, e => plainT e && chE sc x e
  | .and a b, .BoolOp .And (e :: f :: r) p => chT sc a e && chT sc b (.BoolOp .And (f :: r) p)
  | .or a b, .BoolOp .Or (e :: f :: r) p => chT sc a e && chT sc b (.BoolOp .Or (f :: r) p)
  | .one a, .BoolOp _ [e] _ => chT sc a e
  | .not a, .UnaryOp .Not e _ => chT sc a e
  | _, _ => false
def chG (dl : Bool) (sc : Scope) : Tg → Expr → Bool
  | .nm i, .Name x _ => decide (N[i]? = some x) && (match sc.names.lookup x with
      | some .local => true
      | some .cell => dl
      | _ => false)
  | .tup ts, .Tuple l _ _ => chGs dl sc ts l
  | .sub o i, .Subscript e f _ => notSlice f && (chE sc o e && chE sc i f)
  | .fld o f, .Attribute e f' _ => decide (f = f') && (noSuper e && chE sc o e)
  | _, _ => false
def chGs (dl : Bool) (sc : Scope) : Tgs → List Expr → Bool
  | .nil, [] => true
  | .cons t ts, a :: l => notStar a && (chG dl sc t a && chGs dl sc ts l)
  | _, _ => false
def chR (sc : Scope) : Sr → Expr → Bool
  | .it e, a => notSet a && chE sc e a
  | .rng1 e, .Call (.Name x _) [a] [] _ => decide (x = ("range" : Str)) && (bname P sc x && (notStar a && chE sc e a))
  | .rng2 e f, .Call (.Name x _) [a, b] [] _ => decide (x = ("range" : Str)) && (bname P sc x && (notStar a && (notStar b && (chE sc e a && chE sc f b))))
  | _, _ => false
end
mutual
def chS (sc : Scope) : Sm → Stmt → Bool
  | .pass, .Pass _ => true
  | .brk, .Break _ => true
  | .cont, .Continue _ => true
  | .app i e, .Expr (.Call (.Attribute (.Name x _) m ap) [a] [] cp) _ => decide (m = ("append" : Str)) && (decide (N[i]? = some x) && (vis sc x && (nsp x && ((ap.endLine == cp.line) && (notStar a && chE P N sc e a)))))
  | .expr e, .Expr a _ => !(isComp a) && chE P N sc e a
  | .ret e, .Return (some a) _ => chE P N sc e a
  | .retN, .Return none _ => true
  | .asg t e, .Assign [a] b _ => (!(isComp b) || (swp sc a b || celN sc a)) && ((!(isTup a && isTup b) || celT sc a) && (chG P N true sc t a && chE P N sc e b))
  | .asgN i e, .Assign [.Name x q] b q' => (!(isComp b) || swp sc (.Name x q) b) && (decide (N[i]? = some x) && (loc sc x && chE P N sc e b))
  | .par i j a b, .Assign [.Tuple [.Name x px, .Name y py] _ _] (.Tuple [e, f] _ _) _ => decide (N[i]? = some x) && (decide (N[j]? = some y) && (parOk sc x y px py e f && (chE P N sc a e && chE P N sc b f)))
  | .ifs c a b, .If t l r _ => chT P N sc c t && (chB sc a l && chB sc b r)
  | .for_ t s body, .For a b l [] _ => chG P N true sc t a && (chR P N sc s b && chB sc body l)
  | .while_ c body, .While t l [] _ => chT P N sc c t && chB sc body l
  | .never, _ => true
  | _, _ => false
def chB (sc : Scope) : Sms → List Stmt → Bool
  | .nil, [] => true
  | .cons s r, a :: l => chS sc s a && chB sc r l
  | _, _ => false
end
end
end Dw
set_option Elab.async false
set_option linter.all false
set_option maxRecDepth 100000
set_option maxHeartbeats 2000000
/-! The widest readings. -/
namespace Dw
open PySem PySem.Spec PyProof.Rows L2

abbrev WE (X : Cx) (e : Expr) : TE := fun σ H Q => ∀ (pins : List (Addr × Obj)) (s : Shared), Inv X pins σ H s → wpAny (model X.prog X.w) X.A (eval e X.env) (EP X pins σ Q) X.xe s
abbrev WT' (X : Cx) (e : Expr) : TT := fun σ H Q => ∀ (pins : List (Addr × Obj)) (s : Shared), Inv X pins σ H s → wpAny (model X.prog X.w) X.A (isTrue e X.env (eval e X.env)) (TP X pins σ Q) X.xe s
/-- a test whatever its whole is -/
abbrev WW (X : Cx) (e : Expr) : TT := fun σ H Q => ∀ (whole : Sem Value) (pins : List (Addr × Obj)) (s : Shared), Inv X pins σ H s → wpAny (model X.prog X.w) X.A (isTrue e X.env whole) (TP X pins σ Q) X.xe s
abbrev WA (X : Cx) (es : List Expr) : TA := fun σ H Q => ∀ (pos : Pos) (pins : List (Addr × Obj)) (s : Shared), Inv X pins σ H s → wpAny (model X.prog X.w) X.A (spliced (backTo pos (starEach es X.env))) (AP X pins σ Q) X.xe s
/-- .. and none at all -/
abbrev WAn (X : Cx) (es : List Expr) : TA := fun σ H Q => (es = [] → Q [] H) ∧ WA X es σ H Q
abbrev WK (X : Cx) (kws : List Keyword) : TA := fun σ H Q => ∀ (pos : Pos) (pins : List (Addr × Obj)) (s : Shared), Inv X pins σ H s → wpAny (model X.prog X.w) X.A (evalAll ((backToKw pos (keywordEach kws X.env)).map (·.2))) (AP X pins σ Q) X.xe s
abbrev WO (X : Cx) (e : Option Expr) : L2.St → Hp → (Option Int → Hp → Prop) → Prop := fun σ H Q => ∀ (pins : List (Addr × Obj)) (s : Shared), Inv X pins σ H s →
  wpAny (model X.prog X.w) X.A (evalPart e X.env) (fun u s' => ∃ o H', Inv X pins σ H' s' ∧ IsPart u o ∧ Q o H') X.xe s
abbrev WG (X : Cx) (tg : Expr) : TG := fun v σ H Q => ∀ (pins : List (Addr × Obj)) (s : Shared) (u : Value), Inv X pins σ H s → RelV v u → wpAny (model X.prog X.w) X.A (assign tg X.env u) (fun _ s' => ∃ σ' H', Inv X pins σ' H' s' ∧ Q σ' H') X.xe s
abbrev WGs (X : Cx) (ts : List Expr) : TGs := fun vs σ H Q => ∀ (pins : List (Addr × Obj)) (s : Shared) (us : List Value), Inv X pins σ H s → Vals vs us →
  wpAny (model X.prog X.w) X.A (assignInOrder ((assignEach ts X.env).map (·.2)) us) (fun _ s' => ∃ σ' H', Inv X pins σ' H' s' ∧ Q σ' H') X.xe s
abbrev WI (X : Cx) (tg iter : Expr) : TI := fun σ H R => ∀ (pins : List (Addr × Obj)) (s : Shared), Inv X pins σ H s →
  wpAny (model X.prog X.w) X.A (eval iter X.env) (fun v s1 => wpAny (model X.prog X.w) X.A (pyIter v) (PIE X pins σ tg R) X.xe s1) X.xe s
abbrev WS (X : Cx) (st : Stmt) : TS := fun D σ H => ∀ (pins : List (Addr × Obj)) (s : Shared), Inv X pins σ H s → wpAny (model X.prog X.w) X.A (exec st X.env) (SP X pins D) X.xe s
abbrev WSs (X : Cx) (st : List Stmt) : TS := fun D σ H => ∀ (pins : List (Addr × Obj)) (s : Shared), Inv X pins σ H s → wpAny (model X.prog X.w) X.A (execs st X.env) (SP X pins D) X.xe s
section
variable {X : Cx} {σ : L2.St} {H : Hp}
theorem pWE (e : Expr) : PE X e (WE X e) := ⟨fun pins s σ H Q I h => h pins s I⟩
theorem pWT (e : Expr) : PT X e (WT' X e) := ⟨fun pins s σ H Q I h => h pins s I⟩
theorem pWW (e : Expr) : PW X e (WW X e) := ⟨fun whole pins s σ H Q I h => h whole pins s I⟩
theorem pWA (es : List Expr) : PA X es (WA X es) := ⟨fun pos pins s σ H Q I h => h pos pins s I⟩
theorem pWK (es : List Keyword) : PK X es (WK X es) := ⟨fun pos pins s σ H Q I h => h pos pins s I⟩
theorem pWO (e : Option Expr) : PO X e (WO X e) := ⟨fun pins s σ H Q I h => h pins s I⟩
theorem pWG (e : Expr) : PG X e (WG X e) := ⟨fun pins s σ H v u Q I r h => h pins s u I r⟩
theorem pWGs (e : List Expr) : PGs X e (WGs X e) := ⟨fun pins s σ H v u Q I r h => h pins s u I r⟩
theorem pWI (tg e : Expr) : PI X tg e (WI X tg e) := ⟨fun pins s σ H R I h => h pins s I⟩
theorem pWS (e : Stmt) : PS X e (WS X e) := ⟨fun pins s σ H D I h => h pins s I⟩
theorem pWSs (e : List Stmt) : PSs X e (WSs X e) := ⟨fun pins s σ H D I h => h pins s I⟩
theorem _root_.L2.PE.we {e : Expr} {t : TE} {Q : VK} (h : PE X e t) (q : t σ H Q) : WE X e σ H Q := fun pins s I => h.run pins s σ H Q I q
theorem _root_.L2.PT.wt {e : Expr} {t : TT} {Q : Bool → Hp → Prop} (h : PT X e t) (q : t σ H Q) : WT' X e σ H Q := fun pins s I => h.run pins s σ H Q I q
theorem _root_.L2.PW.ww {e : Expr} {t : TT} {Q : Bool → Hp → Prop} (h : PW X e t) (q : t σ H Q) : WW X e σ H Q := fun whole pins s I => h.run whole pins s σ H Q I q
theorem _root_.L2.PA.wa {e : List Expr} {t : TA} {Q : List V → Hp → Prop} (h : PA X e t) (q : t σ H Q) : WA X e σ H Q := fun pos pins s I => h.run pos pins s σ H Q I q
theorem _root_.L2.PK.wk {e : List Keyword} {t : TA} {Q : List V → Hp → Prop} (h : PK X e t) (q : t σ H Q) : WK X e σ H Q := fun pos pins s I => h.run pos pins s σ H Q I q
theorem _root_.L2.PO.wo {e : Option Expr} {t : TO} {Q : Option Int → Hp → Prop} (h : PO X e t) (q : t σ H Q) : WO X e σ H Q := fun pins s I => h.run pins s σ H Q I q
theorem _root_.L2.PG.wg {e : Expr} {t : TG} {v : V} {Q : L2.St → Hp → Prop} (h : PG X e t) (q : t v σ H Q) : WG X e v σ H Q := fun pins s u I r => h.run pins s σ H v u Q I r q
theorem _root_.L2.PGs.wg {e : List Expr} {t : TGs} {v : List V} {Q : L2.St → Hp → Prop} (h : PGs X e t) (q : t v σ H Q) : WGs X e v σ H Q := fun pins s u I r => h.run pins s σ H v u Q I r q
theorem _root_.L2.PI.wi {tg e : Expr} {t : TI} {R : It → Hp → Prop} (h : PI X tg e t) (q : t σ H R) : WI X tg e σ H R := fun pins s I => h.run pins s σ H R I q
theorem _root_.L2.PS.ws {e : Stmt} {t : TS} {D : Ends} (h : PS X e t) (q : t D σ H) : WS X e D σ H := fun pins s I => h.run pins s σ H D I q
theorem _root_.L2.PSs.ws {e : List Stmt} {t : TS} {D : Ends} (h : PSs X e t) (q : t D σ H) : WSs X e D σ H := fun pins s I => h.run pins s σ H D I q
theorem WE.mono {e : Expr} {Q Q' : VK} (h : WE X e σ H Q) (f : ∀ v H', Q v H' → Q' v H') : WE X e σ H Q' := fun pins s I => thn (h pins s I) fun u s' ⟨v, H', I', r, q⟩ => ⟨v, H', I', r, f v H' q⟩
theorem WT.mono {e : Expr} {Q Q' : Bool → Hp → Prop} (h : WT' X e σ H Q) (f : ∀ v H', Q v H' → Q' v H') : WT' X e σ H Q' := fun pins s I => thn (h pins s I) fun u s' ⟨H', I', q⟩ => ⟨H', I', f u H' q⟩
theorem WW.mono {e : Expr} {Q Q' : Bool → Hp → Prop} (h : WW X e σ H Q) (f : ∀ v H', Q v H' → Q' v H') : WW X e σ H Q' := fun w pins s I => thn (h w pins s I) fun u s' ⟨H', I', q⟩ => ⟨H', I', f u H' q⟩
theorem WW.wt {e : Expr} {Q : Bool → Hp → Prop} (h : WW X e σ H Q) : WT' X e σ H Q := h _
theorem WA.mono {e : List Expr} {Q Q' : List V → Hp → Prop} (h : WA X e σ H Q) (f : ∀ v H', Q v H' → Q' v H') : WA X e σ H Q' := fun pos pins s I => thn (h pos pins s I) fun u s' ⟨v, H', I', r, q⟩ => ⟨v, H', I', r, f v H' q⟩
theorem WK.mono {e : List Keyword} {Q Q' : List V → Hp → Prop} (h : WK X e σ H Q) (f : ∀ v H', Q v H' → Q' v H') : WK X e σ H Q' := fun pos pins s I => thn (h pos pins s I) fun u s' ⟨v, H', I', r, q⟩ => ⟨v, H', I', r, f v H' q⟩
theorem WO.mono {e : Option Expr} {Q Q' : Option Int → Hp → Prop} (h : WO X e σ H Q) (f : ∀ v H', Q v H' → Q' v H') : WO X e σ H Q' := fun pins s I => thn (h pins s I) fun u s' ⟨v, H', I', r, q⟩ => ⟨v, H', I', r, f v H' q⟩
theorem WG.mono {e : Expr} {v : V} {Q Q' : L2.St → Hp → Prop} (h : WG X e v σ H Q) (f : ∀ v H', Q v H' → Q' v H') : WG X e v σ H Q' := fun pins s u I r => thn (h pins s u I r) fun _ s' ⟨v, H', I', q⟩ => ⟨v, H', I', f v H' q⟩
theorem WGs.mono {e : List Expr} {v : List V} {Q Q' : L2.St → Hp → Prop} (h : WGs X e v σ H Q) (f : ∀ v H', Q v H' → Q' v H') : WGs X e v σ H Q' := fun pins s u I r => thn (h pins s u I r) fun _ s' ⟨v, H', I', q⟩ => ⟨v, H', I', f v H' q⟩
theorem WI.mono {tg e : Expr} {R R' : It → Hp → Prop} (h : WI X tg e σ H R) (f : ∀ v H', R v H' → R' v H') : WI X tg e σ H R' := fun pins s I => thn (h pins s I) fun v s1 h1 => thn h1 fun itv s2 ⟨it, fp, tn, J, H', a, b, c, d, g, r⟩ => ⟨it, fp, tn, J, H', a, b, c, d, g, f J H' r⟩
theorem SP.mono {pins : List (Addr × Obj)} {D D' : Ends} {f : Flow} {s : Shared} (h : SP X pins D f s) (n : ∀ σ H, D.nx σ H → D'.nx σ H) (r : ∀ v H, D.rt v H → D'.rt v H) (b : ∀ σ H, D.bk σ H → D'.bk σ H) (c : ∀ σ H, D.ct σ H → D'.ct σ H) : SP X pins D' f s := by
  cases f with
  | next => obtain ⟨a, e, I, q⟩ := h; exact ⟨a, e, I, n _ _ q⟩
  | brk => obtain ⟨a, e, I, q⟩ := h; exact ⟨a, e, I, b _ _ q⟩
  | cont => obtain ⟨a, e, I, q⟩ := h; exact ⟨a, e, I, c _ _ q⟩
  | ret u => obtain ⟨v, a, e, I, rv, q⟩ := h; exact ⟨v, a, e, I, rv, r _ _ q⟩
end

/-! ### by syntax -/
theorem starEach_cons {e : Expr} {es : List Expr} {env : PySem.Env} (h : notStar e = true) : starEach (e :: es) env = (false, eval e env) :: starEach es env := by
  cases e <;> first | rfl | exact nomatch h
theorem starEach_any {env : PySem.Env} {pos : Pos} : ∀ {es : List Expr}, es.all notStar = true → (backTo pos (starEach es env)).any (·.1) = false
  | [], _ => rfl
  | e :: es, h => by
    simp only [List.all_cons, Bool.and_eq_true] at h
    rw [starEach_cons h.1]
    show (false || (backTo pos (starEach es env)).any (·.1)) = false
    rw [starEach_any h.2]; rfl
theorem starEach_all {env : PySem.Env} {pos : Pos} : ∀ {es : List Expr}, es.all notStar = true → (backTo pos (starEach es env)).all (fun x => !x.1) = true
  | [], _ => rfl
  | e :: es, h => by
    simp only [List.all_cons, Bool.and_eq_true] at h
    rw [starEach_cons h.1]
    show (true && (backTo pos (starEach es env)).all (fun x => !x.1)) = true
    rw [starEach_all h.2]; rfl
theorem attrBase {o : Expr} {f : Str} {env : PySem.Env} {whole : Sem Value} (h : noSuper o = true) : attributeBase o f env whole = whole := by
  unfold attributeBase
  split
  · rename_i h'
    exact nomatch h
  · rfl
theorem plainIx_of {b : Expr} (h : notSlice b = true) : PlainIx b := fun o i => by
  cases b <;> first | rfl | exact nomatch h
theorem truth_of {a : Expr} (h : plainT a = true) {env : PySem.Env} {whole : Sem Value} : isTrue a env whole = (do let v ← whole; standAt a.pos; holding [v] (truthy v)) := by
  cases a with
  | UnaryOp op x p => cases op <;> first | rfl | exact nomatch h
  | BoolOp op x p => exact nomatch h
  | IfExp a b c p => exact nomatch h
  | Compare a b c p => exact nomatch h
  | _ => rfl
theorem noBehind {op : CmpOp} {b : Expr} (h : notSet b = true) : behindInMarks op b = false := by
  cases b <;> first | rfl | exact nomatch h
theorem lastMark2 {o1 o2 : CmpOp} {b c : Expr} (h : notSet c = true) : lastMarks [o1, o2] [b, c] = false := by
  show behindInMarks o2 c = false
  exact noBehind h
theorem folded_of {e : Expr} {env : PySem.Env} (h : notSet e = true) : ∀ x, foldedSetIterable e env x = pure x := fun x => by
  cases e <;> first | rfl | exact nomatch h
theorem assign_sub {o i : Expr} {pos : Pos} {env : PySem.Env} (h : notSlice i = true) (v : Value) : assign (.Subscript o i pos) env v = (do
      let ov ← holding [v] (eval o env)
      let iv ← holding [v, ov] (eval i env)
      standAt pos
      holding [v, ov, iv] (setItem ov iv v)
      release [v, ov, iv] []) := by
  cases i <;> first | rfl | exact nomatch h
theorem swaps_of {e : Expr} {t : Option Expr} {l : Nat} {env : PySem.Env} (h : isComp e = false) : swapsWith e t l env = pure false := by
  cases e <;> first | rfl | exact nomatch h
theorem swapStores_of {a b : Expr} {env : PySem.Env} (h : (!(isTup a && isTup b)) = true) : swappedStores [a] b env = pure none := by
  cases a <;> first
    | rfl
    | (cases b <;> first | rfl | exact nomatch h)
theorem assignEach1 {a : Expr} {env : PySem.Env} (h : notStar a = true) : (assignEach [a] env).map (·.2) = [assign a env] := by
  cases a <;> first | rfl | exact nomatch h
theorem assignEach_cons {a : Expr} {l : List Expr} {env : PySem.Env} (h : notStar a = true) : assignEach (a :: l) env = (false, assign a env) :: assignEach l env := by
  cases a <;> first | rfl | exact nomatch h
theorem assignEach_len {env : PySem.Env} : ∀ {l : List Expr}, l.all notStar = true → (assignEach l env).length = l.length ∧ (assignEach l env).findIdx? (·.1) = none
  | [], _ => ⟨rfl, rfl⟩
  | a :: l, h => by
    simp only [List.all_cons, Bool.and_eq_true] at h
    obtain ⟨h1, h2⟩ := assignEach_len h.2 (env := env)
    rw [assignEach_cons h.1]
    refine ⟨by simp [h1], ?_⟩
    rw [List.findIdx?_cons]
    simp [h2]
theorem methCall_eq {o : Expr} {m : Str} {es : List Expr} {kws : List Keyword} {apos pos : Pos} {env : PySem.Env} (hb : noSuper o = true) (hf : methodCallForm (es.length + kws.length) (backTo pos (starEach es env)) (backToKw pos (keywordEach kws env)) = true) (hl : (apos.endLine == pos.line) = true) :
    eval (.Call (.Attribute o m apos) es kws pos) env = (do
      let ov ← eval o env
      standAt apos.atName
      let (f, first) ← holding [ov] (getMethod ov m (do return (← importBound o env).getD true))
      callWith pos f first (backTo pos (starEach es env)) (backToKw pos (keywordEach kws env))) := by
  show (do
    let ov ← attributeBase o m env (eval o env)
    standAt apos.atName
    methodCall o m apos pos env ov (es.length + kws.length) (backTo pos (starEach es env)) (backToKw pos (keywordEach kws env))) = _
  rw [attrBase hb]
  simp only [methodCall, hf, calleeOf, methodCallPos, hl, if_true, Bool.not_true, Bool.false_or, pure_bind]
end Dw
set_option Elab.async false
set_option linter.all false
set_option maxRecDepth 100000
set_option maxHeartbeats 2000000
/-! What a body may lean on; calls. -/
namespace Dw
open PySem PySem.Spec PyProof.Rows L2 ClX

def RepX (K : PySem.W.Frag) (ca : Nat → Addr) (G H : Hp) (x : Exn) (c : Value) (dx : Option Addr) : Prop :=
  c = .ref (ca x.c) ∧ ((x.fs = [] ∧ dx = none) ∨ ∃ d vs, dx = some d ∧ H d = some (.xd vs) ∧ RepF K ca G x.fs vs)
abbrev Ph1 := List D → CS → (D → Bool → CS → Prop) → (Exn → CS → Prop) → Prop
/-- what a def promises -/
def spW (K : PySem.W.Frag) (ca : Nat → Addr) (n : Nat) (ph : Ph1) : Sp := fun vs H Q E => ∃ G cs ds, Ok K ca G H cs ∧ RepL K ca G ds vs ∧ ds.length = n ∧
  ph ds cs (fun d fr cs' => ∀ G' H' v, Same G G' → Ok K ca G' H' cs' → RepR K ca G' H' cs' d fr v → Q v H')
    (fun x cs' => ∀ G' H' c dx, Same G G' → Ok K ca G' H' cs' → RepX K ca G' H' x c dx → E c dx H')
/-- a def of the text, run where no guard of a repr is up -/
structure FnG (P : Program) (w : World) (K : PySem.W.Frag) (mg : Str → Option Value) (base : Heap) (Cx' : CXT) (k : Nat) (f : Addr) (fd : FuncData) (ps : List Str) (sp : Sp) : Prop where
  len : ∀ vs H Q E, sp vs H Q E → vs.length = ps.length
  run : ∀ (A : Around), A.guards = some [] → ∀ (out : List PySem.Env) (s : Shared) (H : Hp) (ar : Args) (us : List Value) (vs : List V) (Q : VK) (E : XK), Room k A → Env0 P w K mg base A out s H →
    BindsTo s fd ar (ps.zip us) → Vals vs us → sp vs H Q E → codeAny (model P w) A (.call (.ref f) ar) (CR Cx' out P w H s Q E) s
theorem FnG.mono {P : Program} {w : World} {K : PySem.W.Frag} {mg : Str → Option Value} {base : Heap} {Cx' : CXT} {j k : Nat} {f : Addr} {fd : FuncData} {ps : List Str} {sp : Sp} (F : FnG P w K mg base Cx' j f fd ps sp) (h : j ≤ k) : FnG P w K mg base Cx' k f fd ps sp :=
  ⟨F.len, fun A hg out s H ar us vs Q E hr => F.run A hg out s H ar us vs Q E (hr.mono h)⟩
theorem FnG.of {P : Program} {w : World} {K : PySem.W.Frag} {mg : Str → Option Value} {base : Heap} {Cx' : CXT} {k : Nat} {f : Addr} {nm qn : Str} {pr : Arguments} {body : List Stmt} {sc : Scope} {dV kV doc pm cv ct oc : Value} {an od : Option Addr} {sl : Array (Option Value)} {N ps : List Str} {sp : Sp}
    (hK : K.lookup f = some ⟨oc, od, .func (PySem.W.fnOf nm qn pr body sc dV kV doc pm an cv ct), sl⟩) (hc : PySem.W.codeIn K cv qn = true) (S : FnScope N ps sc) (hlen : ∀ vs H Q E, sp vs H Q E → vs.length = ps.length)
    (hb : ∀ (A : Around), A.guards = some [] → ∀ (out : List PySem.Env) (s : Shared) (H : Hp) (vs : List V) (Q : VK) (E : XK), Room k (A.deeper (envOfC qn sc s.heap.objs.size f cv)) → sp vs H Q E →
      WSs (cxOf Cx' P w K mg base N qn sc f cv A out s H E) body { nx := fun _ H' => Q .non H', rt := Q } (L2.start N vs) H) :
    FnG P w K mg base Cx' (k + 1) f (PySem.W.fnOf nm qn pr body sc dV kV doc pm an cv ct) ps sp := by
  constructor
  · exact hlen
  intro A hg out s H ar us vs Q E room e0 bd rv h
  have kin := e0.mod.kin.keeps (h' := s.heap) fun b o e => (e0.bs b o e).1
  have noL := e0.mod.nolimit.keeps (h' := s.heap) fun b o e => (e0.bs b o e).1
  have kinds : ∀ y ∈ ps.zip us, sc.names.lookup y.1 = some .local ∨ (sc.names.lookup y.1 = some .cell ∧ ((cellsFrom (s.heap.objs.size + 1) sc.names []).lookup y.1).isSome = true) := by
    intro y hy
    obtain ⟨n, v⟩ := y
    have hn : n ∈ ps := (List.of_mem_zip hy).1
    exact (S.par n hn).imp id fun q => ⟨q, PySem.W.cellsFrom_some _ _ _ (.inl q)⟩
  apply codeAny_call_function room.depth (kin _ _ hK) rfl S.co S.gen rfl (PySem.W.codeRec_of kin hc) (bd _ _ _ _ _)
  apply wpAny_newFunctionEnv_cells S.kind kinds
  intro en he s1 ic
  cases he
  refine ⟨noL.keeps ic.toInCall.keep, ?_⟩
  apply codeAny_func
  have J := inv_start (CX := Cx') (E := E) S room.hd e0 (hlen _ _ _ _ h) rv ic
  refine wpAny_mono (hb A hg out s H vs Q E (room.deeper _) h [] s1 J) ?_ (fun _ _ z => z)
  intro fl s' q
  match fl, q with
  | .ret u, ⟨v, _, H', I', r', q'⟩ => exact ⟨v, H', I'.os, I'.bare, I'.base, I'.hok, r', q'⟩
  | .next, ⟨_, H', I', q'⟩ => exact ⟨V.non, H', I'.os, I'.bare, I'.base, I'.hok, rfl, q'⟩
  | .brk, ⟨_, _, _, q'⟩ => exact q'.elim
  | .cont, ⟨_, _, _, q'⟩ => exact q'.elim
structure FnOk' (X : Cx) (ca : Nat → Addr) (lv : Nat) (a : Addr) (f : FnI) (ph : Ph1) : Prop where
  ex : ∃ fd, FnG X.prog X.w X.K X.mg X.base (CX X.prog X.w) lv a fd f.ps (spW X.K ca f.ps.length ph) ∧
    (∀ (s : Shared) (us : List Value), X.K.In s.heap → us.length = f.ps.length → BindsTo s fd ⟨us, []⟩ (f.ps.zip us)) ∧
    (∀ n ks perm, (n, ks, perm) ∈ f.kw → perm.length = f.ps.length ∧ (∀ i ∈ perm, i < n + ks.length) ∧ ∀ (s : Shared) (us ws : List Value), X.K.In s.heap → us.length = n → ws.length = ks.length → BindsTo s fd ⟨us, ks.zip ws⟩ (f.ps.zip (arr perm (us ++ ws))))
def tyNs : List String := ["NoneType", "bool", "int", "str", "list", "tuple", "dict"]
/-- the parts of a written own __repr__, self called x -/
def rpB (sc : Scope) (x : Str) : List RP → List Expr → Bool
  | [], [] => true
  | .lit y :: r, .Constant (.str z) _ _ :: l => decide (y = z) && rpB sc x r l
  | .fld f :: r, .FormattedValue (.Attribute (.Name x' _) f' _) 114 none _ :: l => decide (x' = x) && (decide (f' = f) && rpB sc x r l)
  | _, _ => false
/-- a class's own __repr__: an f-string of its attributes -/
structure RepC (K : PySem.W.Frag) (C : Addr) (rp : List RP) : Prop where
  cl : Cls K C
  ex : ∃ (ga : Addr) (oc : Value) (od : Option Addr) (nm qn : Str) (pr : Arguments) (sc : Scope) (dV kV doc pm cv ct : Value) (an : Option Addr) (sl : Array (Option Value)) (x : Str) (e1 e2 : Expr) (parts : List Expr) (p1 p2 : Pos),
    PySem.W.findIn K (.ref C) "__repr__" = some (some (.ref ga)) ∧ PySem.W.isFn K (.ref ga) = true ∧
    K.lookup ga = some ⟨oc, od, .func (PySem.W.fnOf nm qn pr [.Return (some (.JoinedStr (e1 :: e2 :: parts) p1)) p2] sc dV kV doc pm an cv ct), sl⟩ ∧ PySem.W.codeIn K cv qn = true ∧ FnScope [x] [x] sc ∧ (vis sc x && nsp x) = true ∧
    rpB sc x rp (e1 :: e2 :: parts) = true ∧
    (∀ (s : Shared) (us : List Value), K.In s.heap → us.length = 1 → BindsTo s (PySem.W.fnOf nm qn pr [.Return (some (.JoinedStr (e1 :: e2 :: parts) p1)) p2] sc dV kV doc pm an cv ct) ⟨us, []⟩ ([x].zip us))
  fl : ∀ f, .fld f ∈ rp → NoAttr K C f
/-- C.m is a staticmethod: its record at p, its def at g -/
structure SMet (K : PySem.W.Frag) (C : Addr) (mc : Value) (m : Str) (p g : Addr) : Prop where
  at_ : PySem.W.findCls K (.ref C) mc m = some (.get (.builtin "staticmethod.__get__") (.ref p) .none (.ref C))
  rc : ∃ rest, PySem.W.recIn K p "staticmethod" = some (.ref g :: rest)
theorem getsmet_ok {X : Cx} {pins : List (Addr × Obj)} {σ : L2.St} {H : Hp} {s : Shared} {C p g : Addr} {mc : Value} {m : Str} {A : Around} {E : Value → Shared → Prop} {pl : Sem Bool} {Q : Value × List Value → Shared → Prop} (I : Inv X pins σ H s) (r : CRead X.K C mc) (k : SMet X.K C mc m p g)
    (h : ∀ s', Inv X pins σ H s' → Q (.ref g, []) s') : wpAny (model X.prog X.w) A (getMethod (.ref C) m pl) Q E s := by
  obtain ⟨rest, hp⟩ := k.rc
  refine PySem.W.method_cls I.kIn r.ga (PySem.W.cls_bind I.kIn r.rd k.at_ ?_)
  exact wpAny_call (PySem.W.sm_get (s := { s with toks := s.toks + 1 }) I.kIn hp (PySem.W.handed_on rfl (h _ (I.tok _))))
structure Fx (P : Pg) (Φ : PhT) (ca fa : Nat → Addr) (lv : Nat) (X : Cx) : Prop where
  fn : ∀ i f, P.fns[i]? = some f → FnOk' X ca lv (fa i) f (Φ i)
  gfn : ∀ x i, P.glo.lookup x = some (.fn i) → (∃ f, P.fns[i]? = some f) ∧ X.mg x = some (.ref (fa i)) ∧ PySem.W.keepIn X.K (.ref (fa i)) = true
  gcl : ∀ x c, P.glo.lookup x = some (.cls c) → X.mg x = some (.ref (ca c))
  free : ∀ x, P.free.contains x = true → X.mg x = none
  cls : ∀ c ci, P.cls[c]? = some ci → Cls X.K (ca c)
  fld : ∀ c f, P.isF c f = true → NoAttr X.K (ca c) f
  meth : ∀ c m g, P.meth c m = some g → Meth X.K (ca c) m (fa g) ∧ ∃ f, P.fns[g]? = some f
  prop : ∀ c m g, P.prop c m = some g → (∃ p, PropOf X.K (ca c) m p (fa g)) ∧ ∃ f, P.fns[g]? = some f ∧ f.ps.length = 1
  con : ∀ c m d, P.con c m = some d → ∃ v u, Con X.K (ca c) m v u ∧ ∀ G, Rep X.K ca G d v
  mkr : ∀ c f, P.initOf c = some f → Mk X.K (ca c) (fa f) ∧ ∃ fi, P.fns[f]? = some fi
  ccn : ∀ c f d, P.con c f = some d → ∃ mc v u, CRead X.K (ca c) mc ∧ CVal X.K (ca c) mc f v u ∧ ∀ G, Rep X.K ca G d v
  isB : ∀ x c n, P.glo.lookup x = some (.cls c) → n ∈ tyNs → PySem.W.kitOne X.K (.type n) (.ref (ca c)) = some false
  isC : ∀ x c c' ci, P.glo.lookup x = some (.cls c) → P.cls[c']? = some ci → PySem.W.kitOne X.K (.ref (ca c')) (.ref (ca c)) = some (decide (c' = c))
  ity : ∀ c ci, P.cls[c]? = some ci → PySem.W.findIn X.K (.ref (ca c)) "__class__" = some (some (.builtin "object.__class__")) ∧ PySem.W.mroIn X.K (ca c) (.type "object") = some true
  ocl : PySem.W.specialIn X.K (.builtin "object.__class__") "__get__" = some (some (.builtin "getset_descriptor.__get__")) ∧ PySem.W.takesIn X.K (.builtin "object.__class__") = some true
  eqk : ∀ c c2 ci ci2, P.cls[c]? = some ci → P.cls[c2]? = some ci2 → PySem.W.notFirst X.K (ca c) (.ref (ca c2)) = true
  eqb : ∀ c ci n, P.cls[c]? = some ci → n ∈ tyNs → PySem.W.notFirst X.K (ca c) (.type n) = true
  sta : ∀ c m f, P.sta c m = some f → (∃ mc p, CRead X.K (ca c) mc ∧ SMet X.K (ca c) mc m p (fa f)) ∧ PySem.W.keepIn X.K (.ref (fa f)) = true
  neq : ∀ c g, P.meth c "__eq__" = some g → PySem.W.findIn X.K (.ref (ca c)) "__ne__" = some (some (.builtin "object.__ne__"))
  fin : ∀ i f, P.fns[i]? = some f → PySem.W.fnIn X.K (fa i) = true
  rad : ∀ c g, P.meth c "__radd__" = some g → PySem.W.selfFirst X.K (ca c) = true ∧ PySem.W.findIn X.K (.ref (ca c)) (PySem.dunder "add") = some none
  rpr : ∀ c ci, P.cls[c]? = some ci → ci.rep.isEmpty = false → RepC X.K (ca c) ci.rep
  inj : ∀ c c' ci ci', P.cls[c]? = some ci → P.cls[c']? = some ci' → ca c = ca c' → ci.rep = ci'.rep
structure Gd (P : Pg) (N : List Str) (Φ : PhT) (ca fa : Nat → Addr) (lv : Nat) (X : Cx) (sc : Scope) : Prop where
  fx : Fx P Φ ca fa lv X
  hN : X.N = N
  hsc : X.env.scope = sc
  calm : X.calm = true
  nd : N.Nodup
  room : Room (lv + 1) X.A
  units : X.A.guards = some []
  big : 26 ≤ lv
/-- what is wanted of an exception here -/
def WOk (X : Cx) (ca : Nat → Addr) (G : Hp) (W : WT) : Prop := ∃ Wc : WX, Takes X Wc ∧ ∀ (σ' : L2.St) G' H' env' cs' x c dx, Same G G' → Ok X.K ca G' H' cs' → EnvR X.K ca G' env' σ' → RepX X.K ca G' H' x c dx → W x env' cs' → Wc c dx σ' H'
theorem WOk.mono {X : Cx} {ca : Nat → Addr} {G G' : Hp} {W : WT} (h : WOk X ca G W) (s : Same G G') : WOk X ca G' W := by
  obtain ⟨Wc, t, q⟩ := h
  exact ⟨Wc, t, fun σ' G2 H' env' cs' x c dx s2 => q σ' G2 H' env' cs' x c dx (s.trans s2)⟩
theorem takes_none {X : Cx} : Takes X (fun _ _ _ _ => False) := fun _ _ ⟨_, _, _, _, _, _, _, _, _, _, _, _, _, _, _, _, w⟩ => w.elim
theorem WOk.never {X : Cx} {ca : Nat → Addr} {G : Hp} : WOk X ca G WN := ⟨_, takes_none, fun _ _ _ _ _ _ _ _ _ _ _ _ h => h⟩
/-- behind an expression -/
def PQ (X : Cx) (ca : Nat → Addr) (G : Hp) (σ : L2.St) (Q : QT) : VK := fun v H' => ∃ G' env' cs' d fr, Same G G' ∧ Ok X.K ca G' H' cs' ∧ EnvR X.K ca G' env' σ ∧ RepR X.K ca G' H' cs' d fr v ∧ Q d fr env' cs'
section
variable {X : Cx} {ca fa : Nat → Addr} {G G' H : Hp} {σ : L2.St} {Q : QT} {env : Env} {cs : CS} {d : D} {v : V}
theorem PQ.mk (ok : Ok X.K ca G H cs) (r : EnvR X.K ca G env σ) (h : Rep X.K ca G d v) (q : Q d false env cs) : PQ X ca G σ Q v H := ⟨G, env, cs, d, false, Same.refl _, ok, r, h.r, q⟩
theorem PQ.lift {v : V} {H' : Hp} (s : Same G G') (h : PQ X ca G' σ Q v H') : PQ X ca G σ Q v H' := by
  obtain ⟨G2, env', cs', d, fr, s2, r⟩ := h
  exact ⟨G2, env', cs', d, fr, s.trans s2, r⟩
/-- .. as a tree -/
theorem PQ.tree {R : D → Env → CS → Prop} {H' : Hp} (h : PQ X ca G σ (fun d _ e c => R d e c) v H') : ∃ G' env' cs' d, Same G G' ∧ Ok X.K ca G' H' cs' ∧ EnvR X.K ca G' env' σ ∧ Rep X.K ca G' d v ∧ R d env' cs' := by
  obtain ⟨G1, env', cs', d, fr, s1, ok, r, rr, q⟩ := h
  obtain ⟨G2, s2, ok2, r2⟩ := ok.freeze rr
  exact ⟨G2, env', cs', d, s1.trans s2, ok2, r.mono s2, r2, q⟩
end

/-! ### calls -/
theorem RepL.arr {K : PySem.W.Frag} {ca : Nat → Addr} {G : Hp} {ds : List D} {vs : List V} (r : RepL K ca G ds vs) : ∀ (perm : List Nat), RepL K ca G (Dw.arr perm ds) (Dw.arr perm vs)
  | [] => .nil
  | i :: p => by
    show RepL K ca G (List.filterMap (fun i => ds[i]?) (i :: p)) (List.filterMap (fun i => vs[i]?) (i :: p))
    rw [List.filterMap_cons, List.filterMap_cons]
    cases e : ds[i]? with
    | none =>
      have e2 : vs[i]? = none := by
        rw [List.getElem?_eq_none_iff] at e ⊢
        rw [← r.length]; exact e
      rw [e2]; exact RepL.arr r p
    | some x =>
      obtain ⟨y, h1, h2⟩ := r.get e
      rw [h1]; exact .cons h2 (RepL.arr r p)
theorem vals_arr {vs : List V} {us : List Value} (r : Vals vs us) : ∀ (perm : List Nat), Vals (arr perm vs) (arr perm us)
  | [] => .nil
  | i :: p => by
    show Vals (List.filterMap (fun i => vs[i]?) (i :: p)) (List.filterMap (fun i => us[i]?) (i :: p))
    rw [List.filterMap_cons, List.filterMap_cons]
    cases e : vs[i]? with
    | none => rw [r.none_of e]; exact vals_arr r p
    | some x =>
      obtain ⟨u, h1, h2⟩ := r.get e
      rw [h1]; exact .cons h2 (vals_arr r p)
theorem arr_length {α : Type} {xs : List α} : ∀ {perm : List Nat}, (∀ i ∈ perm, i < xs.length) → (arr perm xs).length = perm.length
  | [], _ => rfl
  | i :: p, h => by
    show (List.filterMap (fun i => xs[i]?) (i :: p)).length = _
    rw [List.filterMap_cons]
    have hi := h i List.mem_cons_self
    rw [List.getElem?_eq_getElem hi]
    show (List.filterMap (fun i => xs[i]?) p).length + 1 = p.length + 1
    rw [show (List.filterMap (fun i => xs[i]?) p).length = p.length from arr_length fun j hj => h j (List.mem_cons_of_mem _ hj)]
section
variable {X : Cx} {ca fa : Nat → Addr} {lv : Nat} {G H : Hp} {σ : L2.St} {cs : CS} {env : Env} {W : WT} {Q : QT} {pins : List (Addr × Obj)} {s : Shared}
theorem run_core (hgu : X.A.guards = some []) {a : Addr} {f : FnI} {ph : Ph1} {fd : FuncData} {us ws : List Value} {ks : List Str} {vs : List V} {ds : List D} (hr : Room lv X.A)
    (F : FnG X.prog X.w X.K X.mg X.base (CX X.prog X.w) lv a fd f.ps (spW X.K ca f.ps.length ph)) (hb : BindsTo s fd ⟨us, ks.zip ws⟩ (f.ps.zip vs2)) (I : Inv X pins σ H s) (rv : Vals vs vs2)
    (ok : Ok X.K ca G H cs) (er : EnvR X.K ca G env σ) (rl : RepL X.K ca G ds vs) (hl : ds.length = f.ps.length) (hW : WOk X ca G W)
    (h : ph ds cs (fun d fr cs' => Q d fr env cs') (fun x cs' => W x env cs'))
    (mono : ∀ {Q1 Q2 : D → Bool → CS → Prop} {E1 E2 : Exn → CS → Prop}, (∀ d fr c, Q1 d fr c → Q2 d fr c) → (∀ x c, E1 x c → E2 x c) → ph ds cs Q1 E1 → ph ds cs Q2 E2) :
    wpAny (model X.prog X.w) X.A (call (.ref a) us (ks.zip ws)) (EP X pins σ (PQ X ca G σ Q)) X.xe s := by
  obtain ⟨Wc, tk, hw⟩ := hW
  have sp : spW X.K ca f.ps.length ph vs H (PQ X ca G σ Q) (fun c dx H' => Wc c dx σ H') := by
    refine ⟨G, cs, ds, ok, rl, hl, mono (fun d fr c q G' H' v s1 ok1 r1 => ⟨G', env, c, d, fr, s1, ok1, er.mono s1, r1, q⟩) (fun x c q G' H' cv dx s1 ok1 r1 => hw σ G' H' env c x cv dx s1 ok1 (er.mono s1) r1 q) h⟩
  refine wpAny_call (codeAny_mono (F.run X.A hgu X.stack s H ⟨us, ks.zip ws⟩ vs2 vs (PQ X ca G σ Q) (fun c dx H' => Wc c dx σ H') hr I.env0 hb rv sp) fun r s' hq => ?_)
  cases r with
  | error e => exact tk e s' (XE.of_call I (fun _ _ _ h => h) hq)
  | ok fl =>
    cases fl with
    | ret u => exact I.after hq
    | next => exact False.elim hq
    | brk => exact False.elim hq
    | cont => exact False.elim hq
end
/-- what a table of promises must be -/
def Mono (Φ : PhT) : Prop := ∀ i ds cs {Q1 Q2 : D → Bool → CS → Prop} {E1 E2 : Exn → CS → Prop}, (∀ d fr c, Q1 d fr c → Q2 d fr c) → (∀ x c, E1 x c → E2 x c) → Φ i ds cs Q1 E1 → Φ i ds cs Q2 E2
section
variable {P : Pg} {N : List Str} {Φ : PhT} {X : Cx} {sc : Scope} {ca fa : Nat → Addr} {lv : Nat} {G H : Hp} {σ : L2.St} {cs : CS} {env : Env} {W : WT} {Q : QT} {pins : List (Addr × Obj)} {s : Shared}
theorem run_pos {i : Nat} {f : FnI} {us : List Value} {vs : List V} {ds : List D} (g : Gd P N Φ ca fa lv X sc) (M : Mono Φ) (hf : P.fns[i]? = some f) (I : Inv X pins σ H s) (rv : Vals vs us) (ok : Ok X.K ca G H cs) (er : EnvR X.K ca G env σ)
    (rl : RepL X.K ca G ds vs) (hl : ds.length = f.ps.length) (hW : WOk X ca G W) (h : Φ i ds cs (fun d fr cs' => Q d fr env cs') (fun x cs' => W x env cs')) :
    wpAny (model X.prog X.w) X.A (call (.ref (fa i)) us) (EP X pins σ (PQ X ca G σ Q)) X.xe s := by
  obtain ⟨fd, F, hb, _⟩ := (g.fx.fn i f hf).ex
  have hl2 : us.length = f.ps.length := by rw [← rv.length, ← rl.length, hl]
  exact run_core g.units (ks := []) (ws := []) (g.room.mono (Nat.le_succ _)) F (hb s us I.kIn hl2) I rv ok er rl hl hW h (M i ds cs)
theorem run_kw {i n : Nat} {f : FnI} {us ws : List Value} {vs zs : List V} {ds es : List D} {ks : List Str} {perm : List Nat} (g : Gd P N Φ ca fa lv X sc) (M : Mono Φ) (hf : P.fns[i]? = some f) (hk : (n, ks, perm) ∈ f.kw) (I : Inv X pins σ H s) (rv : Vals vs us) (rz : Vals zs ws)
    (h1 : us.length = n) (h2 : ws.length = ks.length) (ok : Ok X.K ca G H cs) (er : EnvR X.K ca G env σ) (rl : RepL X.K ca G ds vs) (re : RepL X.K ca G es zs) (hW : WOk X ca G W) (h : Φ i (arr perm (ds ++ es)) cs (fun d fr cs' => Q d fr env cs') (fun x cs' => W x env cs')) :
    wpAny (model X.prog X.w) X.A (call (.ref (fa i)) us (ks.zip ws)) (EP X pins σ (PQ X ca G σ Q)) X.xe s := by
  obtain ⟨fd, F, _, hb⟩ := (g.fx.fn i f hf).ex
  obtain ⟨p1, p2, p3⟩ := hb n ks perm hk
  have rr := (rl.append re).arr perm
  have hl : (arr perm (ds ++ es)).length = f.ps.length := by
    rw [arr_length, p1]
    intro j hj
    have := p2 j hj
    rw [List.length_append, rl.length, re.length, rv.length, rz.length, h1, h2]; exact this
  exact run_core g.units (g.room.mono (Nat.le_succ _)) F (p3 s us ws I.kIn h1 h2) I (vals_arr (rv.append rz) perm) ok er rr hl hW h (M i _ cs)
end
end Dw
set_option Elab.async false
set_option linter.all false
set_option maxRecDepth 100000
set_option maxHeartbeats 4000000
/-! repr of trees, own __repr__ among them. -/
namespace Dw
open PySem PySem.Spec PyProof.Rows L2

/-! ### heights, and the addresses of a tree -/
/-- an attribute that the class's own __repr__ tells -/
def sel (P : Pg) (ca : Nat → Addr) (C : Addr) (f : Str) : Prop := ∃ c ci, P.cls[c]? = some ci ∧ ca c = C ∧ RP.fld f ∈ ci.rep
/-- a thing within the thing at an address -/
def kid (P : Pg) (ca : Nat → Addr) (K : PySem.W.Frag) (G : Hp) (a : Addr) (w : V) : Prop := (∃ vs, SqL K G a vs ∧ w ∈ vs) ∨ (∃ vs, SqT K G a vs ∧ w ∈ vs) ∨ ∃ C dx fs f, G a = some (.ins C dx fs) ∧ sel P ca C f ∧ fs.lookup f = some w
/-- a tree at most n high -/
def Hgt (P : Pg) (ca : Nat → Addr) (K : PySem.W.Frag) (G : Hp) : Nat → V → Prop
  | 0, v => ∀ a, v ≠ .ref a
  | n + 1, v => ∀ a, v = .ref a → ∀ w, kid P ca K G a w → Hgt P ca K G n w
/-- an address of the tree, at most n deep -/
def InT (P : Pg) (ca : Nat → Addr) (K : PySem.W.Frag) (G : Hp) : Nat → V → Addr → Prop
  | 0, _, _ => False
  | n + 1, v, b => v = .ref b ∨ ∃ a w, v = .ref a ∧ kid P ca K G a w ∧ InT P ca K G n w b
section
variable {P : Pg} {ca : Nat → Addr} {K : PySem.W.Frag} {G : Hp}
theorem Hgt.succ : ∀ {n : Nat} {v : V}, Hgt P ca K G n v → Hgt P ca K G (n + 1) v
  | 0, v, h => fun a e => absurd e (h a)
  | n + 1, v, h => fun a e w k => (h a e w k).succ
theorem Hgt.strict : ∀ {n m : Nat} {v : V} {b : Addr}, Hgt P ca K G m v → InT P ca K G n v b → Hgt P ca K G m (.ref b)
  | 0, _, _, _, _, h => h.elim
  | n + 1, 0, v, b, hm, h => by
    rcases h with rfl | ⟨a, w, rfl, _⟩
    · exact hm
    · exact absurd rfl (hm a)
  | n + 1, m + 1, v, b, hm, h => by
    rcases h with rfl | ⟨a, w, rfl, k, q⟩
    · exact hm
    · exact (Hgt.strict (hm a rfl w k) q).succ
/-- what is in a thing is no part of itself -/
theorem no_loop {a : Addr} {w : V} (k : kid P ca K G a w) {n : Nat} (h : InT P ca K G n w a) : ∀ {m : Nat}, ¬ Hgt P ca K G m (.ref a)
  | 0, hm => hm a rfl
  | m + 1, hm => no_loop k h (Hgt.strict (hm a rfl w k) h)
end
section
variable {P : Pg} {ca : Nat → Addr} {X : Cx} {pins : List (Addr × Obj)} {σ : L2.St} {G H : Hp} {s : Shared} {a : Addr} {w : V}
theorem no_lt (sm : Same G H) (I : Inv X pins σ H s) {vs ws : List V} (h : SqL X.K G a vs) (h' : SqT X.K G a ws) : False := by
  obtain ⟨its, _, ⟨o, n, ho, hc, _⟩, _⟩ := I.list (sqL_same sm h)
  obtain ⟨its, _, ⟨o', ho', hc', _⟩, _⟩ := I.tuple (sqT_same sm h')
  rw [ho] at ho'; cases ho'
  rw [hc] at hc'
  injection hc' with e
  exact absurd e (by decide)
theorem no_li (sm : Same G H) (I : Inv X pins σ H s) {vs : List V} {C dx : Addr} {fs : List (Str × V)} (h : SqL X.K G a vs) (e : G a = some (.ins C dx fs)) : False := by
  obtain ⟨its, _, ⟨o, n, ho, hc, _⟩, _⟩ := I.list (sqL_same sm h)
  obtain ⟨m, O, _⟩ := ins_get I.hok (sm _ _ e)
  obtain ⟨od, J, _⟩ := O.look
  have := J.at_
  rw [ho] at this
  cases this
  have := J.cls
  rw [hc] at this; cases this
theorem no_ti (sm : Same G H) (I : Inv X pins σ H s) {vs : List V} {C dx : Addr} {fs : List (Str × V)} (h : SqT X.K G a vs) (e : G a = some (.ins C dx fs)) : False := by
  obtain ⟨its, _, ⟨o, ho, hc, _⟩, _⟩ := I.tuple (sqT_same sm h)
  obtain ⟨m, O, _⟩ := ins_get I.hok (sm _ _ e)
  obtain ⟨od, J, _⟩ := O.look
  have := J.at_
  rw [ho] at this
  cases this
  have := J.cls
  rw [hc] at this; cases this
/-- what stands at an address is one thing alone -/
structure One (P : Pg) (ca : Nat → Addr) (K : PySem.W.Frag) (G : Hp) : Prop where
  l : ∀ {a vs w}, SqL K G a vs → kid P ca K G a w → w ∈ vs
  t : ∀ {a vs w}, SqT K G a vs → kid P ca K G a w → w ∈ vs
  i : ∀ {a C dx fs w}, G a = some (.ins C dx fs) → kid P ca K G a w → ∃ f, sel P ca C f ∧ fs.lookup f = some w
theorem one_of (sm : Same G H) (I : Inv X pins σ H s) : One P ca X.K G where
  l := fun {a vs w} h k => by
    rcases k with ⟨ws, k, m⟩ | ⟨ws, k, m⟩ | ⟨C, dx, fs, f, k, _⟩
    · rw [I.list_inj (sqL_same sm h) (sqL_same sm k)]; exact m
    · exact (no_lt sm I h k).elim
    · exact (no_li sm I h k).elim
  t := fun {a vs w} h k => by
    rcases k with ⟨ws, k, m⟩ | ⟨ws, k, m⟩ | ⟨C, dx, fs, f, k, _⟩
    · exact (no_lt sm I k h).elim
    · rw [I.tuple_inj (sqT_same sm h) (sqT_same sm k)]; exact m
    · exact (no_ti sm I h k).elim
  i := fun {a C dx fs w} h k => by
    rcases k with ⟨ws, k, m⟩ | ⟨ws, k, m⟩ | ⟨C, dx, fs, f, k, q⟩
    · exact (no_li sm I k h).elim
    · exact (no_ti sm I k h).elim
    · rw [h] at k; cases k; exact ⟨f, q⟩
end

/-! ### a repr that keeps all that is known -/
/-- room and frames for a repr n deep -/
structure AOk (X : Cx) (A : Around) (n : Nat) : Prop where
  fr : A.frames = some X.stack
  hd : A.handled = none
  dp : A.depth + 8 * n + 16 < recursionLimit
  un : A.units + 24 * n + 224 < cLine
/-- the thing x has the repr t, where no guard is up at an address of it -/
def RIs (X : Cx) (H : Hp) (cl : Addr → Prop) (n : Nat) (x : V) (t : Str) : Prop :=
  ∀ (pins : List (Addr × Obj)) (σ : L2.St) (s : Shared) (u : Value) (A : Around) (gs : List Code) (E : Value → Shared → Prop), Inv X pins σ H s → RelV x u → AOk X A n → A.guards = some gs → (∀ b, cl b → Clear gs b) →
    (∀ (base : Nat) (Q : Str → Shared → Prop), base + t.length ≤ sizeLine → (∀ s', Inv X pins σ H s' → Q t s') → wpAny (model X.prog X.w) A (pyReprUnder base u) Q E s) ∧
    (∀ (Q : Value → Shared → Prop), t.length ≤ sizeLine → (∀ s' tk, Inv X pins σ H s' → Q (.str t tk) s') → wpAny (model X.prog X.w) A (pyReprObj u) Q E s) ∧
    (∀ (Q : Value → Shared → Prop), A.in1.units + 24 * n + 224 < cLine → t.length ≤ sizeLine → (∀ s' tk, Inv X pins σ H s' → Q (.str t tk) s') → wpAny (model X.prog X.w) A (call (.builtin "repr") [u]) Q E s)
section
variable {X : Cx} {H : Hp} {cl : Addr → Prop} {n : Nat}
theorem RIs.up {cl' : Addr → Prop} {m : Nat} {x : V} {t : Str} (h : RIs X H cl n x t) (hc : ∀ b, cl b → cl' b) (hn : n ≤ m) : RIs X H cl' m x t := fun pins σ s u A gs E I r a hg hcl =>
  have z := h pins σ s u A gs E I r ⟨a.fr, a.hd, by have := a.dp; omega, by have := a.un; omega⟩ hg fun b q => hcl b (hc b q)
  ⟨z.1, z.2.1, fun Q hu hz q => z.2.2 Q (by omega) hz q⟩
theorem ris_none : RIs X H cl n .non "None" := fun pins σ s u A gs E I r a hg hcl => by
  cases (show u = Value.none from r)
  exact ⟨fun base Q hb q => ReprIs.none base hb A E s Q fun tk => q _ (I.tok tk), fun Q _ q => pyReprObj_none (q _ _ (I.tok _)), fun Q _ _ q => PySem.P.repr_of_none (q _ _ (I.tok _))⟩
theorem ris_bool (b : Bool) : RIs X H cl n (.bl b) (if b then "True" else "False") := fun pins σ s u A gs E I r a hg hcl => by
  cases (show u = Value.bool b from r)
  exact ⟨fun base Q hb q => ReprIs.bool b base hb A E s Q fun tk => q _ (I.tok tk), fun Q _ q => pyReprObj_bool (q _ _ (I.tok _)), fun Q _ _ q => PySem.P.repr_of_bool (q _ _ (I.tok _))⟩
theorem ris_int {i : Int} (hi : i.natAbs.log2 < 1920) : RIs X H cl n (.int i) (toString i) := fun pins σ s u A gs E I r a hg hcl => by
  obtain ⟨t, rfl⟩ := (show ∃ t, u = Value.int i t from r)
  exact ⟨fun base Q hb q => ReprIs.int t hi base hb A E s Q fun tk => q _ (I.tok tk), fun Q _ q => pyReprObj_int hi (q _ _ (I.tok _)), fun Q _ _ q => PySem.P.repr_of_int hi (q _ _ (I.tok _))⟩
theorem ris_str (x : Str) : RIs X H cl n (.str x) (reprText x) := fun pins σ s u A gs E I r a hg hcl => by
  obtain ⟨t, rfl⟩ := (show ∃ t, u = Value.str x t from r)
  exact ⟨fun base Q hb q => ReprIs.str x t (by omega) base hb A E s Q fun tk => q _ (I.tok tk), fun Q hz q => pyReprObj_str (q _ _ (I.tok _)) hz, fun Q _ hz q => PySem.P.repr_of_str (q _ _ (I.tok _)) hz⟩

/-! ### lists -/
theorem under_of {A : Around} {id : String} {args : Args} (hf : (Code.builtin id args).frames = 0) (hc : (Code.builtin id args).isCreation = false) (hk : (Code.builtin id args).isCaller = false) :
    (A.under (.builtin id args)).frames = A.frames ∧ (A.under (.builtin id args)).handled = A.handled ∧ (A.under (.builtin id args)).depth ≤ A.depth + 1 := by
  refine ⟨by simp [Around.under, Code.envs, pushEnvs, hf, Code.isFrame], rfl, ?_⟩
  have e : (A.under (.builtin id args)).depth = A.depth + (Code.builtin id args).weight := by simp [Around.under]
  rw [e]
  have w : (Code.builtin id args).weight ≤ 1 := by
    unfold Code.weight
    rw [hf, hc, hk]
    simp only [Bool.false_eq_true, if_false]
    split <;> omega
  omega
theorem aok_under {A : Around} {id : String} {args : Args} (h : AOk X A (n + 1)) (hf : (Code.builtin id args).frames = 0) (hc : (Code.builtin id args).isCreation = false) (hk : (Code.builtin id args).isCaller = false) (hu : (A.under (.builtin id args)).units = A.units + 1) :
    AOk X (A.under (.builtin id args)) n := by
  obtain ⟨h1, h2, h3⟩ := under_of (A := A) hf hc hk
  exact ⟨h1.trans h.fr, h2.trans h.hd, by have := h.dp; omega, by have := h.un; rw [hu]; omega⟩
theorem list_loop {a P : Addr} {vs : List V} {ts : List Str} {base : Nat} {gs : List Code} {A : Around} {R : Result → Shared → Prop} (hL : SqL X.K H a vs) (hna : ¬ cl a)
    (hT : ∀ (i : Nat) (x : V), vs[i]? = some x → ∃ t, ts[i]? = some t ∧ RIs X H cl n x t) (hlen : ts.length = vs.length) (hsz : base + (listText ts).length ≤ sizeLine)
    (hA : AOk X A (n + 1)) (hg : A.guards = some gs) (hcl : ∀ b, cl b → Clear gs b) (haP : a ≠ P) :
    ∀ (k i : Nat) (pins : List (Addr × Obj)) (σ : L2.St) (s : Shared) (acc : Array Value) (c : Nat) (done : List (Str × Tok)), vs.length - i = k → i ≤ vs.length → Inv X pins σ H s → FpOk X pins H P →
    s.heap.get? P = some { cls := .type "list", dict := none, data := .seq acc c, slots := #[] } → acc.toList = strValues done → done.map (·.1) = ts.take i →
    (∀ s' u, Inv X pins σ H s' → R (.ok (.ret (.str (listText ts) u))) s') →
    codeAny (model X.prog X.w) A (.builtin "list.__repr__.loop" ⟨[.ref a, rawInt i, .ref P, rawInt ((base + piled (ts.take i) : Nat) : Int)], []⟩) R s := by
  have hX : (listText ts).length = (textFrom 0 "[" ts).length + 1 := by
    show (textFrom 0 "[" ts ++ "]").length = _
    rw [strLen_append]; rfl
  have hL0 := textFrom_len ts 0 "["
  have hsz1 : vs.length ≤ sizeLine := by
    have h1 := hL0.1
    rw [if_neg (Nat.lt_irrefl 0)] at h1
    omega
  have hsz2 : ∀ t ∈ ts, t.length ≤ sizeLine := fun t ht => by
    have h2 := hL0.2.1 t ht
    omega
  have hp3 := piled_le_listText ts
  intro k
  induction k with
  | zero =>
    intro i pins σ s acc c done hk hi I hP hget hacc hdone hR
    have hin : i = vs.length := by omega
    obtain ⟨its, rv, ⟨oa, na, ha, _, _, hda⟩, _⟩ := I.list hL
    refine codeAny_builtin F.entry_list_repr_loop ?_
    show wpAny _ _ (Builtin.«list.__repr__.loop» ⟨[.ref a, .int i 0, .ref P, .int ((base + piled (ts.take i) : Nat) : Int) 0], []⟩) _ _ s
    rw [repr_loop_tree]
    refine wpAny_bind (wpAny_listItems ha hda ?_)
    have hnone : its.toArray[(i : Int).toNat]? = none := by
      have := rv.length
      simp; omega
    simp only [hnone]
    unfold reprEnd
    refine wpAny_bind (wpAny_listItems hget rfl ?_)
    rw [hacc, repr_fold]
    refine wpAny_bind (wpAny_pure ?_)
    have hall : done.map (·.1) = ts := by rw [hdone, hin, ← hlen, List.take_length]
    rw [hall]
    refine wpAny_bind (wpAny_mkStr (wpAny_pure ?_) (by show (textFrom 0 "[" ts ++ "]").length ≤ _; have : (listText ts).length ≤ sizeLine := by omega
                                                       exact this))
    exact hR _ _ (I.tok _)
  | succ k ih =>
    intro i pins σ s acc c done hk hi I hP hget hacc hdone hR
    have hlt : i < vs.length := by omega
    obtain ⟨t, ht, hrep⟩ := hT i vs[i] (by simp [hlt])
    have hp1 := piled_take_succ ht
    have hp2 := piled_take_le ts (i + 1)
    obtain ⟨its, rv, ⟨oa, na, ha, _, _, hda⟩, _⟩ := I.list hL
    obtain ⟨u, hu1, hu2⟩ := rv.get (i := i) (x := vs[i]) (by simp [hlt])
    refine codeAny_builtin F.entry_list_repr_loop ?_
    show wpAny _ _ (Builtin.«list.__repr__.loop» ⟨[.ref a, .int i 0, .ref P, .int ((base + piled (ts.take i) : Nat) : Int) 0], []⟩) _ _ s
    rw [repr_loop_tree]
    refine wpAny_bind (wpAny_listItems ha hda ?_)
    have hsome : its.toArray[(i : Int).toNat]? = some u := by simpa using hu1
    simp only [hsome]
    rw [Int.toNat_natCast]
    have nc : ∀ v, ({ cls := .type "list", dict := none, data := .seq acc c, slots := #[] } : Obj).data ≠ .cell v := fun v e => by cases e
    have I2 : Inv X (pins ++ pinsAt [P] s.heap) σ H s := I.pinned (fp := [P]) (fun b hb => by rw [List.mem_singleton.mp hb]; exact hP) (fun b hb => by rw [List.mem_singleton.mp hb]; exact ⟨_, hget, nc⟩)
    have hAu := aok_under (n := n) (id := "list.__repr__.loop") (args := ⟨[.ref a, .int i 0, .ref P, .int ((base + piled (ts.take i) : Nat) : Int) 0], []⟩) hA (by first | rfl | decide +kernel) (by first | rfl | decide +kernel) (by first | rfl | decide +kernel) (units_under_list_loop _ _)
    refine wpAny_bind (wpAny_holding ((hrep (pins ++ pinsAt [P] s.heap) σ s u _ _ _ I2 hu2 hAu (guards_under_guard (isGuard_list_loop _) hg) (fun b hb => (hcl b hb).cons (a := a) fun e => hna (e ▸ hb))).1 (base + piled (ts.take i) + 1) _ (by omega) fun s1 I1 => ?_))
    have hget1 : s1.heap.get? P = some _ := (I1.pin (P, _) (List.mem_append_right _ (List.mem_append_right _ (mem_pinsAt (List.mem_singleton.mpr rfl) hget)))).1
    have I1' := I1.unpinned
    refine wpAny_bind (wpAny_mkStr ?_ (hsz2 t (List.mem_of_getElem? ht)))
    refine wpAny_bind ?_
    show wpAny _ _ (updateSeq P _) _ _ _
    have hasz : acc.size ≤ sizeLine := by
      have e1 : acc.toList.length = acc.size := by simp
      have e2 : (strValues done).length = done.length := by simp [strValues]
      have e3 : done.length = (ts.take i).length := by rw [← hdone, List.length_map]
      have e4 : (ts.take i).length ≤ i := by rw [List.length_take]; omega
      rw [hacc] at e1; omega
    refine wpAny_updateSeq hget1 rfl (wpAny_pure ⟨F.quiet_list_repr_loop _, ?_⟩) hasz
    have e1 : ((i : Int) + 1) = ((i + 1 : Nat) : Int) := by omega
    have e2 : base + piled (ts.take i) + (t.length + 2) = base + piled (ts.take (i + 1)) := by omega
    rw [e1, e2]
    obtain ⟨f0, f1, f2, f3, f4, f5⟩ := hP
    refine ih (i + 1) pins σ _ (acc.push (.str t s1.toks)) _ (done ++ [(t, s1.toks)]) (by omega) hlt ((I1'.tok (s1.toks + 1)).turned (t' := s1.toks + 1) (it := P) (fun b o hb e => (Heap.get?_update_other _ _ (fun h : P = b => hb h.symm)).trans e) f0 f1 f3 f4 f5)
      ⟨f0, f1, f2, f3, f4, f5⟩ (Heap.get?_update_self _ hget1 rfl) (by simp [hacc, strValues]) (by simp [List.take_add_one, ht, hdone]) hR

theorem list_core {a : Addr} {vs : List V} {ts : List Str} {base : Nat} {gs : List Code} {A : Around} {R : Result → Shared → Prop} (hL : SqL X.K H a vs) (hna : ¬ cl a)
    (hT : ∀ (i : Nat) (x : V), vs[i]? = some x → ∃ t, ts[i]? = some t ∧ RIs X H cl n x t) (hlen : ts.length = vs.length) (hsz : base + (listText ts).length ≤ sizeLine)
    (hA : AOk X A (n + 1)) (hg : A.guards = some gs) (hcl : ∀ b, cl b → Clear gs b) (hca : Clear gs a) {pins : List (Addr × Obj)} {σ : L2.St} {s : Shared} (I : Inv X pins σ H s) (hne : vs ≠ [])
    (hR : ∀ s' u, Inv X pins σ H s' → R (.ok (.ret (.str (listText ts) u))) s') :
    wpAny (model X.prog X.w) A.in1 (Builtin.listReprAt base ⟨[.ref a], []⟩) (fun fin s' => match fin with | .done f => R (.ok f) s' | .again c' => c'.quiet = true ∧ codeAny (model X.prog X.w) A c' R s') (fun e s' => R (.error e) s') s := by
  obtain ⟨its, rv, ⟨oa, na, ha, hc, _, hda⟩, _⟩ := I.list hL
  cases its with
  | nil =>
    cases vs with
    | nil => exact absurd rfl hne
    | cons v vs => cases rv
  | cons x l =>
    refine wpAny_list_repr_head (A := A.in1) hg (fun v rest kw hm => listSameRef_of_ne (hca _ _ _ _ hm)) ha hda ?_
    refine wpAny_bind (m := newList []) (wpAny_newObj_type ?_)
    refine wpAny_pure ⟨F.quiet_list_repr_loop _, ?_⟩
    have hP : FpOk X pins H s.heap.objs.size := I.fpOk (Nat.le_refl _) (I.hok.fresh (Nat.le_refl _))
    exact list_loop (P := s.heap.objs.size) hL hna hT hlen hsz hA hg hcl (Nat.ne_of_lt (Heap.lt_size ha)) _ 0 pins σ _ #[] _ [] rfl (Nat.zero_le _) (I.kept (t' := s.toks) fun b o e => Heap.get?_push_of_some _ e) hP (Heap.get?_push_size _ rfl) rfl (by simp) hR
theorem ris_list {a : Addr} {vs : List V} {ts : List Str} (hL : SqL X.K H a vs) (hna : ¬ cl a)
    (hT : ∀ (i : Nat) (x : V), vs[i]? = some x → ∃ t, ts[i]? = some t ∧ RIs X H cl n x t) (hlen : ts.length = vs.length) : RIs X H (fun b => b = a ∨ cl b) (n + 1) (.ref a) (listText ts) := by
  intro pins σ s u A gs E I r ao hg hcl
  cases (show u = Value.ref a from r)
  obtain ⟨its, rv, ⟨oa, na, ha, hc, hd0, hda⟩, _⟩ := I.list hL
  have hty : s.TypeIs (.ref a) "list" := ⟨oa, ha, hc⟩
  have hu : A.units < cLine := by have := ao.un; omega
  cases vs with
  | nil =>
    cases rv
    have : ts = [] := List.eq_nil_of_length_eq_zero hlen
    subst this
    rw [listText_nil]
    refine ⟨fun base Q hb q => ?_, fun Q hz q => ?_, fun Q hu2 hz q => ?_⟩
    · exact wpAny_pyReprUnder_ref (by omega) (wpAny_pyReprObjUnder_list_empty hty hu ha hda ⟨_, _, rfl, q _ (I.tok _)⟩)
    · exact wpAny_pyReprObj_list_empty hty hu ha hda (q _ _ (I.tok _))
    · exact call_repr_slot (by have : A.units + 1 = A.in1.units := rfl
                               omega) hty F.slot_list_repr.toG (call_list_repr_empty hty ha hda ⟨_, _, rfl, q _ _ (I.tok _)⟩)
  | cons v vs =>
    refine ⟨fun base Q hb q => ?_, fun Q hz q => ?_, fun Q hu2 hz q => ?_⟩
    rotate_left 2
    · have u1 : A.units + 1 = A.in1.units := rfl
      refine call_repr_slot (by omega) hty F.slot_list_repr.toG (wpAny_call (codeAny_call_builtin F.slot_list_repr.plain F.entry_list_repr (F.slot_list_repr.check _ _ _ _ _ _ _ _ hty (F.args_list_repr_1 _) ?_)))
      exact list_core (A := A.in1) (base := 0) (R := callEnd (fun r s' => ∃ x t, r = .str x t ∧ Q r s') E) hL hna hT hlen (by omega) ⟨ao.fr, ao.hd, ao.dp, hu2⟩ hg (fun b z => hcl b (.inr z)) (hcl a (.inl rfl)) I (by simp) fun s' tk I' => ⟨_, _, rfl, q _ _ I'⟩
    · refine wpAny_pyReprUnder_ref (by omega) (wpAny_pyReprObjUnder_twin (twin := "list.__repr__.under") hty F.slot_list_repr.toG rfl hu (call_twin_plain F.plain_list_repr_under F.entry_list_repr_under F.check_list_repr_under hty F.slot_list_repr.toG (F.args_list_repr_1 _) ?_))
      exact list_core (R := callEnd (fun v s' => (∃ x u, v = .str x u) ∧ ∃ x u, v = .str x u ∧ Q x s') E) hL hna hT hlen hb ao hg (fun b z => hcl b (.inr z)) (hcl a (.inl rfl)) I (by simp) fun s' tk I' => ⟨⟨_, _, rfl⟩, _, _, rfl, q _ I'⟩
    · refine wpAny_pyReprObj_slot hu hty F.slot_list_repr.toG (wpAny_call (codeAny_call_builtin F.slot_list_repr.plain F.entry_list_repr (F.slot_list_repr.check _ _ _ _ _ _ _ _ hty (F.args_list_repr_1 _) ?_)))
      exact list_core (base := 0) (R := callEnd (fun r s' => ∃ x t, r = .str x t ∧ Q r s') E) hL hna hT hlen (by omega) ao hg (fun b z => hcl b (.inr z)) (hcl a (.inl rfl)) I (by simp) fun s' tk I' => ⟨_, _, rfl, q _ _ I'⟩

/-! ### tuples -/
theorem tup_fold {gs : List Code} {A : Around} {E : Value → Shared → Prop} (hA : AOk X A n) (hg : A.guards = some gs) (hcl : ∀ b, cl b → Clear gs b) {pins : List (Addr × Obj)} {σ : L2.St} :
    ∀ (vs : List V) (us : List Value) (ts : List Str) (acc : Array Str) (m : Nat) (s : Shared) (Q : (Array Str × Nat) → Shared → Prop), Vals vs us → (∀ (i : Nat) (x : V), vs[i]? = some x → ∃ t, ts[i]? = some t ∧ RIs X H cl n x t) → ts.length = vs.length →
    m + piled ts ≤ sizeLine → Inv X pins σ H s → (∀ s', Inv X pins σ H s' → Q ⟨acc ++ ts.toArray, m + piled ts⟩ s') → wpAny (model X.prog X.w) A (forIn us (⟨acc, m⟩ : (Array Str × Nat)) tupBody) Q E s := by
  intro vs
  induction vs with
  | nil =>
    intro us ts acc m s Q rv hT hl hm I q
    cases rv
    have : ts = [] := List.eq_nil_of_length_eq_zero hl
    subst this
    simp only [List.forIn_nil]
    exact wpAny_pure (by simpa [piled] using q s I)
  | cons v vs ih =>
    intro us ts acc m s Q rv hT hl hm I q
    cases rv with
    | cons r rv =>
      rename_i u us
      cases ts with
      | nil => simp at hl
      | cons t ts =>
        obtain ⟨t', e, hx⟩ := hT 0 v rfl
        have e : t = t' := by simpa using e
        subst e
        rw [piled_cons] at hm
        rw [List.forIn_cons]
        refine wpAny_bind (wpAny_bind ((hx pins σ s u A gs E I r hA hg hcl).1 (m + 1) _ (by omega) fun s1 I1 => wpAny_pure ?_))
        refine ih us ts (acc.push t) (m + (t.length + 2)) s1 Q rv (fun i x e => hT (i + 1) x (by simpa using e)) (by simpa using hl) (by omega) I1 fun s2 I2 => ?_
        have h1 := q s2 I2
        have e : m + piled (t :: ts) = m + (t.length + 2) + piled ts := by rw [piled_cons]; omega
        rw [e] at h1
        simpa using h1
theorem tup_core {a : Addr} {vs : List V} {ts : List Str} {base : Nat} {gs : List Code} {A : Around} {R : Result → Shared → Prop} {id : String} {rest : List Value} (hL : SqT X.K H a vs) (hna : ¬ cl a)
    (hT : ∀ (i : Nat) (x : V), vs[i]? = some x → ∃ t, ts[i]? = some t ∧ RIs X H cl n x t) (hlen : ts.length = vs.length) (hsz : base + (tupleText ts).length ≤ sizeLine)
    (hcg : (Code.builtin id ⟨.ref a :: rest, []⟩).isGuard = true) (hcu : (A.under (.builtin id ⟨.ref a :: rest, []⟩)).units = A.units + 1)
    (hf : (Code.builtin id ⟨.ref a :: rest, []⟩).frames = 0) (hcc : (Code.builtin id ⟨.ref a :: rest, []⟩).isCreation = false) (hck : (Code.builtin id ⟨.ref a :: rest, []⟩).isCaller = false)
    (hA : AOk X A (n + 1)) (hg : A.guards = some gs) (hcl : ∀ b, cl b → Clear gs b) (hca : Clear gs a) {pins : List (Addr × Obj)} {σ : L2.St} {s : Shared} (I : Inv X pins σ H s)
    (hR : ∀ s' u, Inv X pins σ H s' → R (.ok (.ret (.str (tupleText ts) u))) s') :
    wpOwn (model X.prog X.w) A (.builtin id ⟨.ref a :: rest, []⟩) (Builtin.tupleReprAt base ⟨[.ref a], []⟩) (fun fin s' => match fin with | .done f => R (.ok f) s' | .again c' => c'.quiet = true ∧ codeAny (model X.prog X.w) A c' R s') (fun e s' => R (.error e) s') s := by
  obtain ⟨its, rv, ⟨o, ho, hc, m, hd⟩, _⟩ := I.tuple hL
  have hl2 : ts.length = its.length := by rw [hlen, rv.length]
  have hp := piled_le_tupleText ts
  have hsz0 : (tupleText ts).length ≤ sizeLine := by omega
  rw [tuple_repr_tree, tupleReprUnderWay_eq]
  refine wpOwn_bind (wpOwn_stackTailAny hg (tupGuardF_off _) (tupGuardF_pos _) ?_)
  have hn : (gs.any fun c => tupGuardF (.ref a) (c, default)) = false := by
    rw [List.any_eq_false]
    intro c hcm
    rw [tupGuardF_of_clear hca c hcm]
    exact Bool.false_ne_true
  rw [hn]
  refine wpOwn_of_wpAny ?_
  show wpAny _ _ (tupleReprRest base (.ref a)) _ _ s
  unfold tupleReprRest Builtin.Tuple.tupleItemsOf
  refine wpAny_bind (wpAny_bind (wpAny_seqItems ho hd (wpAny_pure ?_)))
  rw [← Array.forIn_toList]
  refine wpAny_bind (tup_fold (aok_under hA hf hcc hck hcu) (guards_under_guard hcg hg) (fun b hb => (hcl b hb).cons (a := a) fun e => hna (e ▸ hb)) vs _ ts _ _ s _ (by simpa using rv) hT hlen (by omega) I fun s1 I1 => ?_)
  refine wpAny_bind (wpAny_mkStr (wpAny_pure ?_) (by simpa [tupleText, hl2] using hsz0))
  have h1 := hR _ s1.toks (I1.tok (s1.toks + 1))
  simpa [tupleText, hl2] using h1
theorem ris_tup {a : Addr} {vs : List V} {ts : List Str} (hL : SqT X.K H a vs) (hna : ¬ cl a)
    (hT : ∀ (i : Nat) (x : V), vs[i]? = some x → ∃ t, ts[i]? = some t ∧ RIs X H cl n x t) (hlen : ts.length = vs.length) : RIs X H (fun b => b = a ∨ cl b) (n + 1) (.ref a) (tupleText ts) := by
  intro pins σ s u A gs E I r ao hg hcl
  cases (show u = Value.ref a from r)
  obtain ⟨its, rv, ⟨oa, ha, hc, m, hda⟩, _⟩ := I.tuple hL
  have hty : s.TypeIs (.ref a) "tuple" := ⟨oa, ha, hc⟩
  have hu : A.units < cLine := by have := ao.un; omega
  refine ⟨fun base Q hb q => ?_, fun Q hz q => ?_, fun Q hu2 hz q => ?_⟩
  rotate_left 2
  · have u1 : A.units + 1 = A.in1.units := rfl
    refine call_repr_slot (by omega) hty F.slot_tuple_repr (wpAny_call (codeAny_call_builtin_own (Code.quiet_builtin _ (by decide +kernel)) F.entry_tuple_repr (F.slot_tuple_repr.check _ _ _ _ _ _ _ _ hty (F.args_tuple_repr_1 _) ?_)))
    exact tup_core (A := A.in1) (base := 0) (R := callEnd (fun r s' => ∃ x t, r = .str x t ∧ Q r s') E) hL hna hT hlen (by omega) (isGuard_tuple_repr _) (units_under_tuple_repr _ _) (by first | rfl | decide +kernel) (by first | rfl | decide +kernel) (by first | rfl | decide +kernel) ⟨ao.fr, ao.hd, ao.dp, hu2⟩ hg (fun b z => hcl b (.inr z)) (hcl a (.inl rfl)) I fun s' tk I' => ⟨_, _, rfl, q _ _ I'⟩
  · refine wpAny_pyReprUnder_ref (by omega) (wpAny_pyReprObjUnder_twin (twin := "tuple.__repr__.under") hty F.slot_tuple_repr rfl hu (call_twin_own (F.quiet_tuple_repr_under _) F.entry_tuple_repr_under F.check_tuple_repr_under hty F.slot_tuple_repr (F.args_tuple_repr_1 _) ?_))
    exact tup_core (R := callEnd (fun v s' => (∃ x u, v = .str x u) ∧ ∃ x u, v = .str x u ∧ Q x s') E) hL hna hT hlen hb (isGuard_tuple_repr_under _) (units_under_tuple_repr_under _ _) (by first | rfl | decide +kernel) (by first | rfl | decide +kernel) (by first | rfl | decide +kernel) ao hg (fun b z => hcl b (.inr z)) (hcl a (.inl rfl)) I fun s' tk I' => ⟨⟨_, _, rfl⟩, _, _, rfl, q _ I'⟩
  · refine wpAny_pyReprObj_slot hu hty F.slot_tuple_repr (wpAny_call (codeAny_call_builtin_own (Code.quiet_builtin _ (by decide +kernel)) F.entry_tuple_repr (F.slot_tuple_repr.check _ _ _ _ _ _ _ _ hty (F.args_tuple_repr_1 _) ?_)))
    exact tup_core (base := 0) (R := callEnd (fun r s' => ∃ x t, r = .str x t ∧ Q r s') E) hL hna hT hlen (by omega) (isGuard_tuple_repr _) (units_under_tuple_repr _ _) (by first | rfl | decide +kernel) (by first | rfl | decide +kernel) (by first | rfl | decide +kernel) ao hg (fun b z => hcl b (.inr z)) (hcl a (.inl rfl)) I fun s' tk I' => ⟨_, _, rfl, q _ _ I'⟩
end
end Dw
set_option Elab.async false
set_option linter.all false
set_option maxRecDepth 100000
set_option maxHeartbeats 4000000
/-! repr of instances by the own __repr__, and of all trees. -/
namespace Dw
open PySem PySem.Spec PyProof.Rows L2 ClX

theorem tJs_mono {σ : L2.St} {X : Cx} : ∀ {l : List Expr} {acc : Str} {H : Hp} {Q Q' : Str → Hp → Prop}, tJs (l.map (WE X)) acc σ H Q → (∀ x H, Q x H → Q' x H) → tJs (l.map (WE X)) acc σ H Q'
  | [], _, _, _, _, h, f => f _ _ h
  | a :: l, _, _, _, _, h, f => WE.mono h fun v H' ⟨y, e, z, q⟩ => ⟨y, e, z, tJs_mono q f⟩
/-- a def runs, whatever guards are up -/
theorem fn_run {P : Program} {w : World} {K : PySem.W.Frag} {mg : Str → Option Value} {base : Heap} {Cx' : CXT} {f : Addr} {nm qn : Str} {pr : Arguments} {body : List Stmt} {sc : Scope} {dV kV doc pm cv ct oc : Value} {an od : Option Addr} {sl : Array (Option Value)} {N ps : List Str}
    {A : Around} {out : List PySem.Env} {s : Shared} {H : Hp} {ar : Args} {us : List Value} {vs : List V} {Q : VK} {E : XK}
    (hK : K.lookup f = some ⟨oc, od, .func (PySem.W.fnOf nm qn pr body sc dV kV doc pm an cv ct), sl⟩) (hc : PySem.W.codeIn K cv qn = true) (S : FnScope N ps sc) (hlen : vs.length = ps.length)
    (hb : WSs (cxOf Cx' P w K mg base N qn sc f cv A out s H E) body { nx := fun _ H' => Q .non H', rt := Q } (L2.start N vs) H) (hdp : A.depth < recursionLimit) (hhd : A.handled = none)
    (e0 : Env0 P w K mg base A out s H) (bd : BindsTo s (PySem.W.fnOf nm qn pr body sc dV kV doc pm an cv ct) ar (ps.zip us)) (rv : Vals vs us) : codeAny (model P w) A (.call (.ref f) ar) (CR Cx' out P w H s Q E) s := by
  have kin := e0.mod.kin.keeps (h' := s.heap) fun b o e => (e0.bs b o e).1
  have noL := e0.mod.nolimit.keeps (h' := s.heap) fun b o e => (e0.bs b o e).1
  have kinds : ∀ y ∈ ps.zip us, sc.names.lookup y.1 = some .local ∨ (sc.names.lookup y.1 = some .cell ∧ ((cellsFrom (s.heap.objs.size + 1) sc.names []).lookup y.1).isSome = true) := by
    intro y hy
    obtain ⟨n, v⟩ := y
    have hn : n ∈ ps := (List.of_mem_zip hy).1
    exact (S.par n hn).imp id fun q => ⟨q, PySem.W.cellsFrom_some _ _ _ (.inl q)⟩
  apply codeAny_call_function hdp (kin _ _ hK) rfl S.co S.gen rfl (PySem.W.codeRec_of kin hc) (bd _ _ _ _ _)
  apply wpAny_newFunctionEnv_cells S.kind kinds
  intro en he s1 ic
  cases he
  refine ⟨noL.keeps ic.toInCall.keep, ?_⟩
  apply codeAny_func
  have J := inv_start (CX := Cx') (E := E) S hhd e0 hlen rv ic
  refine wpAny_mono (hb [] s1 J) ?_ (fun _ _ z => z)
  intro fl s' q
  match fl, q with
  | .ret u, ⟨v, _, H', I', r', q'⟩ => exact ⟨v, H', I'.os, I'.bare, I'.base, I'.hok, r', q'⟩
  | .next, ⟨_, H', I', q'⟩ => exact ⟨V.non, H', I'.os, I'.bare, I'.base, I'.hok, rfl, q'⟩
  | .brk, ⟨_, _, _, q'⟩ => exact q'.elim
  | .cont, ⟨_, _, _, q'⟩ => exact q'.elim
theorem strApp_le (x y : Str) : x.length ≤ (x ++ y).length := by rw [strLen_append]; omega
theorem reprI_le {f : D → Option Str} {fs : List (Str × D)} : ∀ {rp : List RP} {acc t : Str}, reprI f fs acc rp = some t → acc.length ≤ t.length
  | [], acc, t, h => by simp only [reprI] at h; cases h; exact Nat.le_refl _
  | .lit x :: r, acc, t, h => by simp only [reprI] at h; exact Nat.le_trans (strApp_le _ _) (reprI_le h)
  | .fld g :: r, acc, t, h => by
    simp only [reprI] at h
    cases e : fs.lookup g with
    | none => rw [e] at h; cases h
    | some d =>
      rw [e] at h
      simp only [Option.bind_some] at h
      cases e2 : f d with
      | none => rw [e2] at h; cases h
      | some y =>
        rw [e2] at h
        exact Nat.le_trans (strApp_le _ _) (reprI_le h)
theorem rpB_lit {sc : Scope} {x y : Str} {r : List RP} {parts : List Expr} (h : rpB sc x (.lit y :: r) parts = true) : ∃ k p l, parts = .Constant (.str y) k p :: l ∧ rpB sc x r l = true := by
  unfold rpB at h
  split at h
  all_goals first
    | (cases h; done)
    | (rename_i hq; cases hq; done)
    | skip
  · rename_i hq
    cases hq
    simp only [Bool.and_eq_true, decide_eq_true_eq] at h
    obtain ⟨rfl, h⟩ := h
    exact ⟨_, _, _, rfl, h⟩
theorem rpB_fld {sc : Scope} {x f : Str} {r : List RP} {parts : List Expr} (h : rpB sc x (.fld f :: r) parts = true) : ∃ q p1 p2 l, parts = .FormattedValue (.Attribute (.Name x q) f p1) 114 none p2 :: l ∧ rpB sc x r l = true := by
  unfold rpB at h
  split at h
  all_goals first
    | (cases h; done)
    | (rename_i hq; cases hq; done)
    | skip
  · rename_i hq
    cases hq
    simp only [Bool.and_eq_true, decide_eq_true_eq] at h
    obtain ⟨rfl, rfl, h⟩ := h
    exact ⟨_, _, _, _, rfl, h⟩
/-- the parts, one behind the other -/
theorem parts_ok {X : Cx} {cl : Addr → Prop} {n : Nat} {C : Addr} {sc : Scope} {x : Str} {gs : List Code} {H : Hp} {σ : L2.St} {a dx : Addr} {vs : List (Str × V)} {f : D → Option Str} {fs : List (Str × D)} (hCl : Cls X.K C) (hN : X.N = [x]) (hsc : X.env.scope = sc) (hvis : (vis sc x && nsp x) = true)
    (hσ : σ[0]? = some (some (.ref a))) (ha : H a = some (.ins C dx vs)) (hA : AOk X X.A n) (hg : X.A.guards = some gs) (hcl : ∀ b, cl b → Clear gs b) :
    ∀ (rp : List RP) (parts : List Expr) (acc t : Str), (∀ g, .fld g ∈ rp → NoAttr X.K C g) → (∀ g d, .fld g ∈ rp → fs.lookup g = some d → ∀ y, f d = some y → ∃ v, vs.lookup g = some v ∧ RIs X H cl n v y) → rpB sc x rp parts = true → reprI f fs acc rp = some t → t.length ≤ sizeLine →
    tJs (parts.map (WE X)) acc σ H (fun out H' => out = t ∧ H' = H)
  | [], parts, acc, t, hf, hv, hb, h, hz => by
    cases parts with
    | nil => simp only [reprI] at h; cases h; exact ⟨rfl, rfl⟩
    | cons _ _ => cases hb
  | .lit z :: r, parts, acc, t, hf, hv, hb, h, hz => by
    have h : reprI f fs (acc ++ z) r = some t := h
    obtain ⟨k, p, l, rfl, hb2⟩ := rpB_lit hb
    exact (pe_str (X := X)).we ⟨_, rfl, Nat.le_trans (reprI_le h) hz, parts_ok hCl hN hsc hvis hσ ha hA hg hcl r _ _ t (fun g q => hf g (List.mem_cons_of_mem _ q)) (fun g d q => hv g d (List.mem_cons_of_mem _ q)) hb2 h hz⟩
  | .fld g :: r, parts, acc, t, hf, hv, hb, h, hz => by
    simp only [reprI] at h
    cases e : fs.lookup g with
    | none => rw [e] at h; cases h
    | some d =>
      rw [e] at h
      simp only [Option.bind_some] at h
      cases e2 : f d with
      | none => rw [e2] at h; cases h
      | some y =>
        rw [e2] at h
        have h : reprI f fs (acc ++ y) r = some t := h
        obtain ⟨q, p1, p2, l, rfl, hb2⟩ := rpB_fld hb
        obtain ⟨v, hl, hr⟩ := hv _ d List.mem_cons_self e y e2
        have hz2 : (acc ++ y).length ≤ sizeLine := Nat.le_trans (reprI_le h) hz
        have hz3 : y.length ≤ sizeLine := by rw [strLen_append] at hz2; omega
        have rest := parts_ok hCl hN hsc hvis hσ ha hA hg hcl r _ _ t (fun g q => hf g (List.mem_cons_of_mem _ q)) (fun g d q => hv g d (List.mem_cons_of_mem _ q)) hb2 h hz
        simp only [Bool.and_eq_true] at hvis
        have nm : WE X (.Name x q) σ H (fun v H' => v = .ref a ∧ H' = H) := by
          have n12 : (x == ("__debug__" : Str)) = false ∧ (x == ("__classdict__" : Str)) = false := by
            have := hvis.2
            unfold nsp at this
            simpa using this
          have hv' : Vis X.env.scope x := by
            rw [hsc]
            have := hvis.1
            unfold vis at this
            split at this <;> first
              | (rename_i q; exact .inl q)
              | (rename_i q; exact .inr (.inl q))
              | (rename_i q; exact .inr (.inr q))
              | cases this
          exact (pe_var (X := X) (i := 0) (x := x) (pos := q) (by rw [hN]; rfl) hv' n12.1 n12.2).we ⟨_, hσ, rfl, rfl⟩
        intro pins s I
        refine wpAny_FormattedValue_repr (attr_of (by rfl) (thn (nm pins s I) fun o s1 ⟨w, H1, I1, ro, e3, e4⟩ => ?_))
        subst e3; subst e4
        cases (show o = Value.ref a from ro)
        refine getattr_ok I1 ha hCl (hf _ List.mem_cons_self) hl fun u s2 I2 ru => ?_
        refine (hr pins σ s2 u X.A gs X.xe I2 ru hA hg hcl).2.1 _ hz3 fun s3 tk I3 => ?_
        exact wpAny_formatField_str ⟨.str y, _, I3, ⟨_, rfl⟩, _, rfl, hz2, rest⟩ ⟨.str y, _, I3.tok _, ⟨_, rfl⟩, _, rfl, hz2, rest⟩ hz3
/-- the callee's end, where no exception is wanted -/
theorem CR.got {X : Cx} {pins : List (Addr × Obj)} {σ : L2.St} {H : Hp} {s s' : Shared} {Q : VK} {r : Result} (I : Inv X pins σ H s) (hq : CR (CX X.prog X.w) X.stack X.prog X.w H s Q (fun _ _ _ => False) r s') : ∃ u, r = .ok (.ret u) ∧ EP X pins σ Q u s' := by
  match r, hq with
  | .error er, hq => exact False.elim (takes_none (X := X.nox) er s' (XE.of_call (I.wish _) (fun c d H' z => z.elim) hq))
  | .ok (.ret u), hq => exact ⟨u, rfl, I.after hq⟩
  | .ok .next, hq => exact False.elim hq
  | .ok .brk, hq => exact False.elim hq
  | .ok .cont, hq => exact False.elim hq
/-- an instance, by its own __repr__ -/
theorem ris_ins {X : Cx} {H : Hp} {cl : Addr → Prop} {n : Nat} {C a dx : Addr} {vs : List (Str × V)} {rp : List RP} {f : D → Option Str} {fs : List (Str × D)} {t : Str} (R : RepC X.K C rp) (ha : H a = some (.ins C dx vs))
    (hv : ∀ X' : Cx, X'.prog = X.prog → X'.w = X.w → X'.K = X.K → X'.mg = X.mg → X'.base = X.base → ∀ g d, .fld g ∈ rp → fs.lookup g = some d → ∀ y, f d = some y → ∃ v, vs.lookup g = some v ∧ RIs X' H cl n v y)
    (h : reprI f fs Str.empty rp = some t) : RIs X H cl (n + 1) (.ref a) t := by
  intro pins σ s u A gs E I r ao hg hcl
  cases (show u = Value.ref a from r)
  obtain ⟨ga, oc, od, nm, qn, pr, sc, dV, kV, doc, pm, cv, ct, an, sl, x, e1, e2, parts, p1, p2, r1, r2, r3, r4, r5, r6, r7, r8⟩ := R.ex
  obtain ⟨m, O, _⟩ := ins_get I.hok ha
  obtain ⟨od', J, _⟩ := O.look
  have hu : A.units < cLine := by have := ao.un; omega
  have core : ∀ (A : Around), AOk X A (n + 1) → A.guards = some gs → t.length ≤ sizeLine → ∀ (Q : Value → Shared → Prop), (∀ s' tk, Inv X pins σ H s' → Q (.str t tk) s') → wpAny (model X.prog X.w) A (call (.ref ga) [.ref a]) Q E s := fun A ao hg hz Q q => by
    have e0 : Env0 X.prog X.w X.K X.mg X.base A X.stack s H := ⟨ao.fr, I.env0.mod, I.env0.bs, I.env0.bsz, I.env0.funs, I.env0.frf, I.env0.hok, I.env0.bare⟩
    refine wpAny_call (codeAny_mono (fn_run (Cx' := CX X.prog X.w) (Q := fun v H' => v = .str t ∧ H' = H) (E := fun _ _ _ => False) (us := [.ref a]) (vs := [.ref a]) r3 r4 r5 rfl ?_ (by have := ao.dp; omega) ao.hd e0 (r8 s [.ref a] I.kIn rfl) (.cons rfl .nil)) fun r s' hq => ?_)
    · generalize hX : cxOf (CX X.prog X.w) X.prog X.w X.K X.mg X.base [x] qn sc ga cv A X.stack s H (fun _ _ _ => False) = X'
      have q1 : X'.prog = X.prog := by rw [← hX]; rfl
      have q2 : X'.w = X.w := by rw [← hX]; rfl
      have q3 : X'.K = X.K := by rw [← hX]; rfl
      have q4 : X'.mg = X.mg := by rw [← hX]; rfl
      have q5 : X'.base = X.base := by rw [← hX]; rfl
      have q6 : X'.N = [x] := by rw [← hX]; rfl
      have q7 : X'.env.scope = sc := by rw [← hX]; rfl
      have q8 : AOk X' X'.A n := by
        rw [← hX]
        refine ⟨?_, ao.hd, ?_, ?_⟩
        · show A.frames.map _ = _
          rw [ao.fr]; rfl
        · have := ao.dp; show A.depth + 1 + 8 * n + 16 < _; omega
        · have := ao.un; show A.units + 3 + 24 * n + 224 < _; omega
      have q9 : X'.A.guards = some gs := by rw [← hX]; exact hg
      have pj : ∀ l : List Expr, PJ X' l (l.map (WE X')) := fun l => by
        induction l with
        | nil => exact .nil
        | cons a l ih => exact .cons (pWE a) ih
      refine (pss_cons (X := X') (pWS _) pss_nil).ws ((ps_ret (X := X') (pe_joined (X := X') (pj (e1 :: e2 :: parts)))).ws ?_)
      have tj := parts_ok (X := X') (cl := cl) (n := n) (C := C) (σ := L2.start [x] [V.ref a]) (f := f) (fs := fs) (by rw [q3]; exact R.cl) q6 q7 r6 rfl ha q8 q9 hcl rp (e1 :: e2 :: parts) Str.empty t (by rw [q3]; exact R.fl) (fun g d hg hl y hy => hv X' q1 q2 q3 q4 q5 g d hg hl y hy) r7 h hz
      exact tJs_mono tj fun out H' ⟨z1, z2⟩ => ⟨by rw [z1], z2⟩
    · obtain ⟨u, rfl, v, H', I', rv, rfl, rfl⟩ := CR.got I hq
      obtain ⟨tk, rfl⟩ := (show ∃ tk, u = Value.str t tk from rv)
      exact q _ _ I'
  have by_ : ∀ (last : Value → List Value → Sem Value), last (.ref ga) [.ref a] = call (.ref ga) [.ref a] → t.length ≤ sizeLine → ∀ (Q : Value → Shared → Prop), (∀ s' tk, Inv X pins σ H s' → Q (.str t tk) s') → wpAny (model X.prog X.w) A (pyReprObjBy last (.ref a)) Q E s := fun last hlast hz Q q => by
    unfold pyReprObjBy
    refine wpAny_bind (wpAny_cRoomFor hu ?_)
    refine wpAny_bind (wpAny_bind (J.type.here ((PySem.W.looks_findIn I.kIn r1).here ?_)))
    show wpAny _ _ (if (some (Value.ref ga)).isNone = true then _ else _) _ _ _
    rw [if_neg (by simp)]
    refine wpAny_bind ?_
    unfold callSpecialIfBoundBy?
    simp only [bindSpecialIfBound?]
    refine wpAny_holding (wpAny_bind (wpAny_bind (wpAny_bind (J.type.here ((PySem.W.looks_findIn I.kIn r1).here ?_)))))
    refine wpAny_bind (wpAny_askSetting (wpAny_ite ?_))
    have fin : ∀ (R : Option Value → Shared → Prop), (∀ s' tk, Inv X pins σ H s' → R (some (.str t tk)) s') → wpAny (model X.prog X.w) A (last (.ref ga) [.ref a] >>= fun v => pure (some v)) R E s := fun R q => by
      rw [hlast]
      exact wpAny_bind (core A ao hg hz _ fun s' tk I' => wpAny_pure (q _ _ I'))
    have fin2 : wpAny (model X.prog X.w) A (last (.ref ga) [.ref a] >>= fun v => pure (some v)) (fun r s' => wpAny (model X.prog X.w) A (match r with
        | some r => (do if ← isInstance r (.type "str") then pure r else raiseError "TypeError" s!"__repr__ returned non-string (type {← typeNameOf r})")
        | none => unsupported "repr:special-get-raises") Q E s') E s := fin _ fun s' tk I' => wpAny_bind (wpAny_isInstance (T := "str") (b := true) rfl isSubtype_str_str (wpAny_pure (q _ _ I')))
    split
    · exact wpAny_bind ((PySem.W.bind_fn I.kIn _ (beq_iff_eq.mp r2)).here (wpAny_pure (by exact fin2)))
    · exact wpAny_tryCatch (wpAny_bind ((PySem.W.bind_fn I.kIn _ (beq_iff_eq.mp r2)).here (wpAny_pure (by exact fin2))))
  refine ⟨fun base Q hb q => ?_, fun Q hz q => ?_, fun Q hu2 hz q => ?_⟩
  rotate_left 2
  · obtain ⟨m, hF⟩ := I.fr
    exact PySem.W.repr_K (by omega) hF I.ok.mod.kin J r1 r2 (core A.in1 ⟨ao.fr, ao.hd, ao.dp, hu2⟩ hg hz _ fun s' tk I' => q _ _ I')
  · refine wpAny_pyReprUnder_ref (by omega) ?_
    unfold pyReprObjUnder
    exact by_ _ rfl (by omega) _ fun s' tk I' => ⟨_, _, rfl, q _ I'⟩
  · rw [pyReprObj_eq_pyReprObjBy]
    exact by_ _ rfl hz _ q

theorem reprL_at {K : PySem.W.Frag} {ca : Nat → Addr} {G : Hp} {f : D → Option Str} : ∀ {xs : List D} {vs : List V} {ts : List Str}, RepL K ca G xs vs → reprL f xs = some ts → ts.length = vs.length ∧ ∀ (i : Nat) (x : V), vs[i]? = some x → ∃ d t, ts[i]? = some t ∧ Rep K ca G d x ∧ f d = some t
  | _, _, ts, .nil, h => by simp only [reprL] at h; cases h; exact ⟨rfl, fun i x e => by simp at e⟩
  | _, _, ts, .cons (d := d) (ds := ds) r rs, h => by
    simp only [reprL] at h
    cases e : f d with
    | none => rw [e] at h; cases h
    | some t =>
      rw [e] at h
      simp only [Option.bind_some] at h
      cases e2 : reprL f ds with
      | none => rw [e2] at h; cases h
      | some ts' =>
        rw [e2] at h
        cases h
        obtain ⟨h1, h2⟩ := reprL_at rs e2
        refine ⟨by simp [h1], fun i x q => ?_⟩
        cases i with
        | zero => simp at q; subst q; exact ⟨d, t, rfl, r, e⟩
        | succ i =>
          obtain ⟨d', t', z1, z2, z3⟩ := h2 i x (by simpa using q)
          exact ⟨d', t', by simpa using z1, z2, z3⟩
theorem RepF.mem {K : PySem.W.Frag} {ca : Nat → Addr} {G : Hp} {fs : List (Str × D)} {vs : List (Str × V)} (r : RepF K ca G fs vs) {g : Str} {d : D} (h : fs.lookup g = some d) : ∃ v, vs.lookup g = some v ∧ v ∈ vs.map (·.2) ∧ Rep K ca G d v := by
  obtain ⟨v, h1, h2⟩ := r.look h
  exact ⟨v, h1, List.mem_map.mpr ⟨(g, v), PySem.mem_of_lookup h1, rfl⟩, h2⟩
theorem reprI_flds {f : D → Option Str} {fs : List (Str × D)} : ∀ {rp : List RP} {acc t : Str}, reprI f fs acc rp = some t → ∀ g, .fld g ∈ rp → ∃ d y, fs.lookup g = some d ∧ f d = some y
  | [], _, _, _, g, h => by cases h
  | .lit x :: r, acc, t, h, g, hg => by
    simp only [reprI] at h
    rcases List.mem_cons.mp hg with e | hg
    · cases e
    · exact reprI_flds h g hg
  | .fld g' :: r, acc, t, h, g, hg => by
    simp only [reprI] at h
    cases e : fs.lookup g' with
    | none => rw [e] at h; cases h
    | some d =>
      rw [e] at h
      simp only [Option.bind_some] at h
      cases e2 : f d with
      | none => rw [e2] at h; cases h
      | some y =>
        rw [e2] at h
        rcases List.mem_cons.mp hg with e3 | hg
        · cases e3; exact ⟨d, y, e, e2⟩
        · exact reprI_flds h g hg

/-- a scalar -/
theorem ris_sc {P : Pg} {ca : Nat → Addr} {G : Hp} {X : Cx} {H : Hp} {cl : Addr → Prop} {n : Nat} {d : D} {x : V} {t : Str} (r : Rep X.K ca G d x) (h : reprS d = some t) : RIs X H cl n x t ∧ ∀ a, x ≠ .ref a := by
  cases d with
  | non => cases r; cases h; exact ⟨ris_none, fun a e => nomatch e⟩
  | bl b => cases r; cases h; exact ⟨ris_bool b, fun a e => nomatch e⟩
  | int i =>
    cases r
    simp only [reprS] at h
    split at h
    · rename_i c; cases h; exact ⟨ris_int c, fun a e => nomatch e⟩
    · cases h
  | str y => cases r; cases h; exact ⟨ris_str y, fun a e => nomatch e⟩
  | _ => cases h
theorem hgt_leaf {P : Pg} {ca : Nat → Addr} {K : PySem.W.Frag} {G : Hp} {n : Nat} {x : V} (h : ∀ a, x ≠ .ref a) : Hgt P ca K G n x := by
  cases n with
  | zero => exact h
  | succ n => exact fun a e => absurd e (h a)
/-- repr of a tree -/
theorem repr_all {P : Pg} {ca : Nat → Addr} {K : PySem.W.Frag} {G H : Hp} (one : One P ca K G) (inj : ∀ c c' ci ci', P.cls[c]? = some ci → P.cls[c']? = some ci' → ca c = ca c' → ci.rep = ci'.rep)
    (hr : ∀ c ci, P.cls[c]? = some ci → ci.rep.isEmpty = false → RepC K (ca c) ci.rep) (sm : Same G H) : ∀ (n : Nat) (d : D) (x : V) (t : Str), Rep K ca G d x → reprN P n d = some t →
    (∀ X : Cx, X.K = K → RIs X H (InT P ca K G n x) n x t) ∧ Hgt P ca K G n x
  | 0, d, x, t, r, h => by
    simp only [reprN] at h
    refine ⟨fun X e => ?_, ?_⟩
    · subst e; exact (ris_sc r h (P := P)).1
    · have : ∀ X : Cx, X.K = K → ∀ a, x ≠ .ref a := fun X e => by subst e; exact (ris_sc (P := P) (H := H) (cl := fun _ => True) (n := 0) r h).2
      cases d with
      | non => cases r; exact hgt_leaf fun a e => nomatch e
      | bl b => cases r; exact hgt_leaf fun a e => nomatch e
      | int b => cases r; exact hgt_leaf fun a e => nomatch e
      | str b => cases r; exact hgt_leaf fun a e => nomatch e
      | _ => cases h
  | n + 1, d, x, t, r, h => by
    have leaf : reprS d = some t → (∀ X : Cx, X.K = K → RIs X H (InT P ca K G (n + 1) x) (n + 1) x t) ∧ Hgt P ca K G (n + 1) x := fun h => by
      refine ⟨fun X e => ?_, ?_⟩
      · subst e; exact (ris_sc r h (P := P)).1
      · cases d with
        | non => cases r; exact hgt_leaf fun a e => nomatch e
        | bl b => cases r; exact hgt_leaf fun a e => nomatch e
        | int b => cases r; exact hgt_leaf fun a e => nomatch e
        | str b => cases r; exact hgt_leaf fun a e => nomatch e
        | _ => cases h
    cases d with
    | non => exact leaf h
    | bl b => exact leaf h
    | int b => exact leaf h
    | str b => exact leaf h
    | dic _ => cases h
    | rol _ => cases h
    | cell _ => cases h
    | lst xs =>
      simp only [reprN] at h
      cases e : reprL (reprN P n) xs with
      | none => rw [e] at h; cases h
      | some ts =>
        rw [e] at h
        cases h
        cases r with
        | lst ha rl =>
          rename_i a vs
          obtain ⟨h1, h2⟩ := reprL_at rl e
          have hL : SqL K G a vs := SqL.of ha
          have hg : Hgt P ca K G (n + 1) (.ref a) := fun a' e' w k => by
            cases e'
            have hw := one.l hL k
            obtain ⟨i, hi, rfl⟩ := List.getElem_of_mem hw
            obtain ⟨d, t, _, z2, z3⟩ := h2 i vs[i] (by simp [hi])
            exact (repr_all one inj hr sm n d _ t z2 z3).2
          refine ⟨fun X eX => ?_, hg⟩
          subst eX
          have hna : ¬ ∃ w ∈ vs, InT P ca X.K G n w a := fun ⟨w, hw, q⟩ => no_loop (.inl ⟨vs, hL, hw⟩) q hg
          refine (ris_list (cl := fun b => ∃ w ∈ vs, InT P ca X.K G n w b) (sqL_same sm hL) hna (fun i x e => ?_) h1).up (fun b q => ?_) (Nat.le_refl _)
          · obtain ⟨d, t, z1, z2, z3⟩ := h2 i x e
            exact ⟨t, z1, ((repr_all one inj hr sm n d x t z2 z3).1 X rfl).up (fun b q => ⟨x, List.mem_of_getElem? e, q⟩) (Nat.le_refl _)⟩
          · rcases q with rfl | ⟨w, hw, q⟩
            · exact .inl rfl
            · exact .inr ⟨a, w, rfl, .inl ⟨vs, hL, hw⟩, q⟩
    | tup xs =>
      simp only [reprN] at h
      cases e : reprL (reprN P n) xs with
      | none => rw [e] at h; cases h
      | some ts =>
        rw [e] at h
        cases h
        cases r with
        | tup ha rl =>
          rename_i a vs
          obtain ⟨h1, h2⟩ := reprL_at rl e
          have hg : Hgt P ca K G (n + 1) (.ref a) := fun a' e' w k => by
            cases e'
            have hw := one.t ha k
            obtain ⟨i, hi, rfl⟩ := List.getElem_of_mem hw
            obtain ⟨d, t, _, z2, z3⟩ := h2 i vs[i] (by simp [hi])
            exact (repr_all one inj hr sm n d _ t z2 z3).2
          refine ⟨fun X eX => ?_, hg⟩
          subst eX
          have hna : ¬ ∃ w ∈ vs, InT P ca X.K G n w a := fun ⟨w, hw, q⟩ => no_loop (.inr (.inl ⟨vs, ha, hw⟩)) q hg
          refine (ris_tup (cl := fun b => ∃ w ∈ vs, InT P ca X.K G n w b) (sqT_same sm ha) hna (fun i x e => ?_) h1).up (fun b q => ?_) (Nat.le_refl _)
          · obtain ⟨d, t, z1, z2, z3⟩ := h2 i x e
            exact ⟨t, z1, ((repr_all one inj hr sm n d x t z2 z3).1 X rfl).up (fun b q => ⟨x, List.mem_of_getElem? e, q⟩) (Nat.le_refl _)⟩
          · rcases q with rfl | ⟨w, hw, q⟩
            · exact .inl rfl
            · exact .inr ⟨a, w, rfl, .inr (.inl ⟨vs, ha, hw⟩), q⟩
    | ins c fs =>
      simp only [reprN] at h
      cases hc : P.cls[c]? with
      | none => rw [hc] at h; cases h
      | some ci =>
        rw [hc] at h
        simp only [Option.bind_some] at h
        split at h
        · cases h
        · rename_i hne
          have hne : ci.rep.isEmpty = false := by simpa using hne
          cases r with
          | ins ha rf =>
            rename_i a dx vs
            have hsel : ∀ f, sel P ca (ca c) f → RP.fld f ∈ ci.rep := fun f ⟨c', ci', q1, q2, q3⟩ => by rw [inj c c' ci ci' hc q1 q2.symm]; exact q3
            have hg : Hgt P ca K G (n + 1) (.ref a) := fun a' e' w k => by
              cases e'
              obtain ⟨f, hs, hl⟩ := one.i ha k
              obtain ⟨d, y, q1, q2⟩ := reprI_flds h f (hsel f hs)
              obtain ⟨v, q3, q4⟩ := rf.look q1
              rw [hl] at q3; cases q3
              exact (repr_all one inj hr sm n d _ y q4 q2).2
            refine ⟨fun X eX => ?_, hg⟩
            subst eX
            refine (ris_ins (cl := fun b => ∃ w, kid P ca X.K G a w ∧ InT P ca X.K G n w b) (hr c ci hc hne) (sm _ _ ha) (fun X' x1 x2 x3 x4 x5 g d hg' hl y hy => ?_) h).up (fun b ⟨w, k, q⟩ => .inr ⟨a, w, rfl, k, q⟩) (Nat.le_refl _)
            obtain ⟨v, q3, q4⟩ := rf.look hl
            refine ⟨v, q3, ((repr_all one inj hr sm n d v y q4 hy).1 X' x3).up (fun b q => ⟨v, .inr (.inr ⟨_, _, _, g, ha, ⟨c, ci, hc, rfl, hg'⟩, q3⟩), q⟩) (Nat.le_refl _)⟩

/-- a thing as a tree, a list of ours too -/
theorem dv_tree {K : PySem.W.Frag} {ca : Nat → Addr} {G H : Hp} {cs : CS} {d : D} {v : V} (ok : Ok K ca G H cs) (r : Rep K ca G d v) : ∃ G', Same G' H ∧ Rep K ca G' (dv cs d) v := by
  cases d with
  | cell a =>
    cases r
    show ∃ G', Same G' H ∧ Rep K ca G' (match cs a with
      | some (.lst xs) => .lst xs
      | some (.dic xs) => .dic xs
      | _ => .cell a) (.ref a)
    cases e : cs a with
    | none => exact ⟨G, ok.sub, .cell a⟩
    | some o =>
      obtain ⟨h1, h2⟩ := ok.cel a o e
      obtain ⟨G', _, ok', r'⟩ := (ok.drop a).freezeOb h1 cdel_same h2
      cases o with
      | lst xs => exact ⟨G', ok'.sub, r'⟩
      | dic xs => exact ⟨G', ok'.sub, r'⟩
      | ins c fs => exact ⟨G, ok.sub, .cell a⟩
  | _ => exact ⟨G, ok.sub, r⟩
theorem call_repr_ok {P : Pg} {N : List Str} {Φ : PhT} {X : Cx} {sc : Scope} {ca fa : Nat → Addr} {lv : Nat} {G H : Hp} {σ : L2.St} {cs : CS} {env : Env} {Q : QT} {pins : List (Addr × Obj)} {s : Shared} {d : D} {x : V} {u : Value} (g : Gd P N Φ ca fa lv X sc) (ok : Ok X.K ca G H cs) (er : EnvR X.K ca G env σ)
    (I : Inv X pins σ H s) (r : Rep X.K ca G d x) (rv : RelV x u) (h : roK (reprTop P (dv cs d)) fun d fr => Q d fr env cs) : wpAny (model X.prog X.w) X.A (call (.builtin "repr") [u]) (EP X pins σ (PQ X ca G σ Q)) X.xe s := by
  unfold reprTop at h
  cases e : reprN P 8 (dv cs d) with
  | none => rw [e] at h; exact h.elim
  | some t =>
    rw [e] at h
    have h : roK (if okSz t.length then some (.str t, false) else none) fun d fr => Q d fr env cs := h
    split at h
    · rename_i c
      obtain ⟨G', sm, r'⟩ := dv_tree ok r
      have q := (repr_all (one_of sm I) g.fx.inj g.fx.rpr sm 8 _ x t r' e).1 X rfl
      have rm := g.room
      have bg := g.big
      have ao : AOk X X.A 8 := ⟨I.ok.frames, I.ok.hd g.calm, by have := rm.dp; omega, by have := rm.un; omega⟩
      exact (q pins σ s u X.A [] X.xe I rv ao g.units (fun b _ => Clear.nil b)).2.2 _ (by have := rm.un; show X.A.units + 1 + 24 * 8 + 224 < cLine; omega) (of_decide_eq_true c) fun s' tk I' => ⟨.str t, H, I', ⟨tk, rfl⟩, PQ.mk ok er (.str _) h⟩
    · exact h.elim
end Dw
set_option Elab.async false
set_option linter.all false
set_option maxRecDepth 100000
set_option maxHeartbeats 2000000
/-! The operations keep what they say. -/
namespace Dw
open PySem PySem.Spec PyProof.Rows L2

def RepH (K : PySem.W.Frag) (ca : Nat → Addr) (G H : Hp) (d : D) (v : V) : Prop := match d with
  | .non => v = .non
  | .bl b => v = .bl b
  | .int i => v = .int i
  | .str x => v = .str x
  | .lst xs => ∃ a vs, v = .ref a ∧ H a = some (.lst vs) ∧ RepL K ca G xs vs
  | .rol xs => ∃ a vs, v = .ref a ∧ SqL K H a vs ∧ RepL K ca G xs vs
  | .tup xs => ∃ a vs, v = .ref a ∧ SqT K H a vs ∧ RepL K ca G xs vs
  | .dic xs => ∃ a vs, v = .ref a ∧ H a = some (.dK vs) ∧ RepK K ca G xs vs
  | .ins c fs => ∃ a dx vs, v = .ref a ∧ H a = some (.ins (ca c) dx vs) ∧ RepF K ca G fs vs
  | .cell a => v = .ref a
section
variable {K : PySem.W.Frag} {ca : Nat → Addr} {G H : Hp} {cs : CS} {d : D} {v : V}
theorem Rep.h (s : Same G H) (r : Rep K ca G d v) : RepH K ca G H d v := by
  cases r with
  | non => rfl
  | bl b => rfl
  | int i => rfl
  | str x => rfl
  | lst h r => exact ⟨_, _, rfl, s _ _ h, r⟩
  | rol h r => exact ⟨_, _, rfl, sqL_same s h, r⟩
  | tup h r => exact ⟨_, _, rfl, sqT_same s h, r⟩
  | dic h r => exact ⟨_, _, rfl, s _ _ h, r⟩
  | ins h r => exact ⟨_, _, _, rfl, s _ _ h, r⟩
  | cell a => rfl
theorem dv_rep (ok : Ok K ca G H cs) (r : Rep K ca G d v) : RepH K ca G H (dv cs d) v := by
  cases d with
  | cell a =>
    cases r
    show RepH K ca G H (match cs a with
      | some (.lst xs) => .lst xs
      | some (.dic xs) => .dic xs
      | _ => .cell a) (.ref a)
    cases e : cs a with
    | none => rfl
    | some o =>
      obtain ⟨_, h⟩ := ok.cel a o e
      cases o with
      | lst xs => obtain ⟨vs, h1, h2⟩ := h; exact ⟨a, vs, rfl, h1, h2⟩
      | dic xs => obtain ⟨vs, h1, h2⟩ := h; exact ⟨a, vs, rfl, h1, h2⟩
      | ins c fs => rfl
  | _ => exact r.h ok.sub
theorem ins_rep (ok : Ok K ca G H cs) (r : Rep K ca G d v) {c : Nat} {fs : List (Str × D)} (e : insOf cs d = some (c, fs)) : ∃ a dx vs, v = .ref a ∧ H a = some (.ins (ca c) dx vs) ∧ RepF K ca G fs vs := by
  cases d with
  | ins c' fs' =>
    cases e
    exact r.h ok.sub
  | cell a =>
    cases r
    have e : (match cs a with
      | some (.ins c fs) => some (c, fs)
      | _ => none) = some (c, fs) := e
    cases e2 : cs a with
    | none => rw [e2] at e; cases e
    | some o =>
      rw [e2] at e
      obtain ⟨_, h⟩ := ok.cel a o e2
      cases o with
      | ins c2 fs2 => cases e; obtain ⟨dx, vs, h1, h2⟩ := h; exact ⟨a, dx, vs, rfl, h1, h2⟩
      | _ => cases e
  | _ => cases e
end
abbrev OW (X : Cx) (f : Value → Value → Sem Value) (x y : V) (σ : L2.St) (H : Hp) (Q : VK) : Prop := ∀ (pins : List (Addr × Obj)) (s : Shared) (v u : Value), Inv X pins σ H s → RelV x v → RelV y u → wpAny (model X.prog X.w) X.A (f v u) (EP X pins σ Q) X.xe s
theorem ow_of {X : Cx} {f : Value → Value → Sem Value} {r : R2} {x y : V} {σ : L2.St} {H : Hp} {Q : VK} (h : OpR X f r) (q : r x y H Q) : OW X f x y σ H Q := fun pins s v u I rx ry => h pins s σ H x y v u Q I rx ry q
theorem foldl_app : ∀ (k : Nat) (xs acc : List Nat), (List.replicate k xs.toArray).foldl (· ++ ·) acc.toArray = (acc ++ rep xs k).toArray
  | 0, xs, acc => by simp [rep]
  | k + 1, xs, acc => by
    rw [List.replicate_succ, List.foldl_cons]
    have e : acc.toArray ++ xs.toArray = (acc ++ xs).toArray := by simp
    rw [e, foldl_app k xs (acc ++ xs)]
    simp [rep, List.replicate_succ, List.append_assoc]
theorem op_mul_str {X : Cx} : OpR X (binaryOp .Mult) (fun x y H Q => ∃ z k, x = .str z ∧ y = .int k ∧ -(2 ^ 62) ≤ k ∧ k < 2 ^ 62 ∧ z.length * k.toNat ≤ sizeLine ∧ Q (.str (strRep z k)) H) := by
  intro pins s σ H x y v u Q I rx ry h
  obtain ⟨z, k, rfl, rfl, h1, h2, hz, q⟩ := h
  obtain ⟨t, rfl⟩ := rx
  obtain ⟨t', rfl⟩ := ry
  have hs : (sizeLine : Nat) ≤ 2 ^ 31 := by rw [sizeLine_eq]; decide
  have e0 : ∀ n : Nat, strRep z n = ⟨(List.replicate n z.cps).foldl (· ++ ·) #[]⟩ := fun n => by
    have := foldl_app n z.cps.toList []
    rw [List.nil_append] at this
    show (⟨(rep z.cps.toList (n : Int).toNat).toArray⟩ : Str) = _
    rw [Int.toNat_natCast, ← this]
  refine PySem.P.mul_str (by rw [decide_eq_false (by omega), decide_eq_false (by omega)]; rfl) (fun hn _ => ?_) (fun hn _ => ?_) ?_
  · intro hc
    have hk : 0 < k := by omega
    have e : ((z.length * k.toNat : Nat) : Int) = (z.length : Int) * k := by
      rw [Int.natCast_mul, Int.toNat_of_nonneg (Int.le_of_lt hk)]
    have : (z.length : Int) * k ≤ 2 ^ 31 := by rw [← e]; exact_mod_cast Nat.le_trans hz hs
    have h3 := (Int.ediv_lt_iff_lt_mul hk).mp hc
    omega
  · show decide (_ > sizeLine) = false
    exact decide_eq_false (by omega)
  · split
    · rename_i hn
      have e : strRep z k = Str.empty := by
        unfold strRep
        rw [show k.toNat = 0 by omega]; rfl
      rw [e] at q
      exact ⟨by decide, .str _, H, I.tok _, ⟨_, rfl⟩, q⟩
    · split
      · rename_i hn hc
        have e : strRep z k = z := by
          simp only [Bool.or_eq_true, beq_iff_eq] at hc
          rcases hc with hc | hc
          · subst hc
            unfold strRep
            simp [rep]
          · have : z.cps = #[] := by
              have : z.cps.size = 0 := hc
              exact Array.eq_empty_of_size_eq_zero this
            obtain ⟨c⟩ := z
            simp only at this
            subst this
            unfold strRep
            have : ∀ n, (rep ([] : List Nat) n) = [] := fun n => by simp [rep]
            simp only [this]
        rw [e] at q
        exact ⟨.str z, H, I, ⟨t, rfl⟩, q⟩
      · rename_i hn hc
        have hk : ((k.toNat : Nat) : Int) = k := Int.toNat_of_nonneg (by omega)
        have e := e0 k.toNat
        rw [hk] at e
        rw [← e]
        refine ⟨?_, .str _, H, I.tok _, ⟨_, rfl⟩, q⟩
        show (rep z.cps.toList k.toNat).toArray.size ≤ sizeLine
        have : (rep z.cps.toList k.toNat).length = k.toNat * z.length := by
          unfold rep; rw [PyProof.Rows.lm_len_rep_flat]; rfl
        simp only [List.size_toArray, this]
        rw [Nat.mul_comm]; exact hz
theorem RepL.rep {K : PySem.W.Frag} {ca : Nat → Addr} {G : Hp} {xs : List D} {vs : List V} (r : RepL K ca G xs vs) : ∀ k : Nat, RepL K ca G (Dw.rep xs k) (List.replicate k vs).flatten
  | 0 => by simp only [Dw.rep, List.replicate_zero, List.flatten_nil]; exact .nil
  | k + 1 => by
    have := r.append (r.rep k)
    simpa only [Dw.rep, List.replicate_succ, List.flatten_cons] using this
section
variable {X : Cx} {ca : Nat → Addr} {G H : Hp} {σ : L2.St} {cs : CS} {env : Env} {Q : QT} {d1 d2 : D} {x y : V}
/-- a new list -/
theorem PQ.newL {p : Addr} {ds : List D} {vs : List V} (ok : Ok X.K ca G H cs) (er : EnvR X.K ca G env σ) (h : H p = none) (r : RepL X.K ca G ds vs) (q : Q (.lst ds) true env cs) : PQ X ca G σ Q (.ref p) (upd H p (.lst vs)) := by
  obtain ⟨o, rr⟩ := Dw.newL ok h r
  exact ⟨G, env, cs, _, _, Same.refl _, o, er, rr, q⟩
theorem PQ.newT {p : Addr} {ds : List D} {vs : List V} (ok : Ok X.K ca G H cs) (er : EnvR X.K ca G env σ) (h : H p = none) (r : RepL X.K ca G ds vs) (q : Q (.tup ds) false env cs) : PQ X ca G σ Q (.ref p) (upd H p (.tup vs)) := by
  obtain ⟨G', s, o, rr⟩ := Dw.newT ok h r
  exact ⟨G', env, cs, _, _, s, o, er.mono s, rr, q⟩
theorem okSz_le {n : Nat} (h : okSz n = true) : n ≤ sizeLine := of_decide_eq_true h
theorem binop_ok {op : Operator} (ok : Ok X.K ca G H cs) (er : EnvR X.K ca G env σ) (r1 : RepH X.K ca G H d1 x) (r2 : RepH X.K ca G H d2 y) (h : roK (binop op d1 d2) fun d fr => Q d fr env cs) : OW X (binaryOp op) x y σ H (PQ X ca G σ Q) := by
  unfold binop at h
  split at h
  · cases r1; cases r2; exact ow_of op_add ⟨_, _, rfl, rfl, PQ.mk ok er (.int _) h⟩
  · cases r1; cases r2; exact ow_of op_sub ⟨_, _, rfl, rfl, PQ.mk ok er (.int _) h⟩
  · split at h
    · rename_i c
      cases r1; cases r2
      refine ow_of op_mul ⟨_, _, rfl, rfl, ?_, PQ.mk ok er (.int _) h⟩
      simp only [mulOk, Bool.or_eq_true, Bool.and_eq_true, decide_eq_true_eq] at c
      exact c
    · exact h.elim
  · split at h
    · rename_i c
      cases r1; cases r2
      simp only [Bool.and_eq_true, decide_eq_true_eq] at c
      exact ow_of op_mul_str ⟨_, _, rfl, rfl, c.1, c.2.1, okSz_le c.2.2, PQ.mk ok er (.str _) h⟩
    · exact h.elim
  · split at h
    · rename_i c
      obtain ⟨a, vs, rfl, ha, ra⟩ := r1
      cases r2
      simp only [Bool.and_eq_true, decide_eq_true_eq] at c
      have c3 := okSz_le c.2.2
      rw [ra.length] at c3
      exact ow_of op_rep ⟨_, _, _, rfl, rfl, ha, by omega, by omega, c3, fun p hp => PQ.newL ok er hp (ra.rep _) h⟩
    · exact h.elim
  · split at h
    · rename_i c
      cases r1; cases r2
      simp only [Bool.and_eq_true, decide_eq_true_eq] at c
      exact ow_of op_fdivN ⟨_, _, rfl, rfl, c, PQ.mk ok er (.int _) h⟩
    · exact h.elim
  · split at h
    · rename_i c
      cases r1; cases r2
      exact ow_of op_modN ⟨_, _, rfl, rfl, of_decide_eq_true c, PQ.mk ok er (.int _) h⟩
    · exact h.elim
  · split at h
    · rename_i c
      cases r1; cases r2
      simp only [Bool.and_eq_true, decide_eq_true_eq] at c
      exact ow_of op_pow ⟨_, _, rfl, rfl, c, PQ.mk ok er (.int _) h⟩
    · exact h.elim
  · split at h
    · rename_i c
      cases r1; cases r2
      exact ow_of op_add_str ⟨_, _, rfl, rfl, okSz_le c, PQ.mk ok er (.str _) h⟩
    · exact h.elim
  · split at h
    · rename_i c
      obtain ⟨a, vs, rfl, ha, ra⟩ := r1
      obtain ⟨b, ws, rfl, hb, rb⟩ := r2
      simp only [Bool.and_eq_true] at c
      have c3 := okSz_le c.2.2
      rw [List.length_append, ra.length, rb.length] at c3
      exact ow_of op_cat ⟨_, _, _, _, rfl, rfl, ha, hb, c3, fun p hp => PQ.newL ok er hp (ra.append rb) h⟩
    · exact h.elim
  · exact h.elim
theorem sc_rep {d1 d2 : D} (h : scK d1 d2 = true) (r1 : RepH X.K ca G H d1 x) (r2 : RepH X.K ca G H d2 y) : scal x y = true ∧ decide (x = y) = scEq d1 d2 := by
  cases d1 with
  | non => cases d2 with
    | non => cases r1; cases r2; exact ⟨rfl, rfl⟩
    | _ => cases h
  | bl a => cases d2 with
    | bl b => cases r1; cases r2; exact ⟨rfl, by rw [dec_bl]; rfl⟩
    | _ => cases h
  | int a => cases d2 with
    | int b =>
      cases r1; cases r2
      exact ⟨rfl, by rw [dec_int]; by_cases e : a = b <;> simp [scEq, e]⟩
    | _ => cases h
  | str a => cases d2 with
    | str b =>
      cases r1; cases r2
      exact ⟨rfl, by rw [dec_str]; by_cases e : a = b <;> simp [scEq, e]⟩
    | _ => cases h
  | _ => cases h
theorem isNon_rep {d : D} (r : RepH X.K ca G H d x) : decide (x = .non) = isNon d := by
  cases d with
  | non => cases r; rfl
  | bl b => cases r; rfl
  | int b => cases r; rfl
  | str b => cases r; rfl
  | lst xs => obtain ⟨a, vs, rfl, _⟩ := r; rfl
  | rol xs => obtain ⟨a, vs, rfl, _⟩ := r; rfl
  | tup xs => obtain ⟨a, vs, rfl, _⟩ := r; rfl
  | dic xs => obtain ⟨a, vs, rfl, _⟩ := r; rfl
  | ins xs => obtain ⟨a, dx, vs, rfl, _⟩ := r; rfl
  | cell a => cases r; rfl
mutual
theorem dat_rep {K : PySem.W.Frag} (s1 : Same G H) : ∀ (d : D) {x : V} {p : PyData}, Rep K ca G d x → datD d = some p → Dp K H x p
  | .non, _, _, r, h => by cases r; cases h; exact .non
  | .bl b, _, _, r, h => by cases r; cases h; exact .bl _
  | .int i, _, _, r, h => by cases r; cases h; exact .int _
  | .str z, _, _, r, h => by cases r; cases h; exact .str _
  | .lst xs, _, _, r, h => by
    cases r with
    | lst ha r =>
      simp only [datD] at h
      cases e : datL xs with
      | none => rw [e] at h; cases h
      | some ps => rw [e] at h; cases h; exact .lst (SqL.of (s1 _ _ ha)) (dat_repL s1 xs r e)
  | .tup xs, _, _, r, h => by
    cases r with
    | tup ha r =>
      simp only [datD] at h
      cases e : datL xs with
      | none => rw [e] at h; cases h
      | some ps => rw [e] at h; cases h; exact .tup (sqT_same s1 ha) (dat_repL s1 xs r e)
  | .dic _, _, _, _, h => by simp [datD] at h
  | .ins _ _, _, _, _, h => by simp [datD] at h
  | .rol _, _, _, _, h => by simp [datD] at h
  | .cell _, _, _, _, h => by simp [datD] at h
theorem dat_repL {K : PySem.W.Frag} (s1 : Same G H) : ∀ (ds : List D) {vs : List V} {ps : List PyData}, RepL K ca G ds vs → datL ds = some ps → DpAll K H vs ps
  | [], _, _, r, h => by cases r; simp only [datL] at h; cases h; exact .nil
  | d :: ds, _, _, r, h => by
    cases r with
    | cons r1 r2 =>
      simp only [datL] at h
      cases e1 : datD d with
      | none => rw [e1] at h; cases h
      | some p =>
        rw [e1] at h
        cases e2 : datL ds with
        | none => rw [e2] at h; cases h
        | some ps => rw [e2] at h; cases h; exact .cons (dat_rep s1 d r1 e1) (dat_repL s1 ds r2 e2)
end
theorem dat_repH {K : PySem.W.Frag} (s1 : Same G H) {d : D} {x : V} {p : PyData} (r : RepH K ca G H d x) (h : datD d = some p) : Dp K H x p := by
  cases d with
  | non => cases r; cases h; exact .non
  | bl b => cases r; cases h; exact .bl _
  | int i => cases r; cases h; exact .int _
  | str z => cases r; cases h; exact .str _
  | lst xs =>
    obtain ⟨a, vs, rfl, ha, rl⟩ := r
    simp only [datD] at h
    cases e : datL xs with
    | none => rw [e] at h; cases h
    | some ps => rw [e] at h; cases h; exact .lst (SqL.of ha) (dat_repL s1 xs rl e)
  | tup xs =>
    obtain ⟨a, vs, rfl, ha, rl⟩ := r
    simp only [datD] at h
    cases e : datL xs with
    | none => rw [e] at h; cases h
    | some ps => rw [e] at h; cases h; exact .tup ha (dat_repL s1 xs rl e)
  | dic _ => simp [datD] at h
  | ins _ _ => simp [datD] at h
  | rol _ => simp [datD] at h
  | cell _ => simp [datD] at h
theorem datEq_some {a b : D} {k : Bool} (h : datEq a b = some k) : ∃ p q, datD a = some p ∧ datD b = some q ∧ SeqAt.shaped p = true ∧ SeqAt.shaped q = true ∧ PyData.eqv p q = k := by
  unfold datEq at h
  cases e1 : datD a with
  | none => rw [e1] at h; cases h
  | some p =>
    rw [e1, Option.bind_some] at h
    cases e2 : datD b with
    | none => rw [e2] at h; cases h
    | some q =>
      rw [e2, Option.bind_some] at h
      split at h
      · rename_i c
        rw [Bool.and_eq_true] at c
        exact ⟨p, q, rfl, rfl, c.1, c.2, Option.some.inj h⟩
      · cases h
/-- a comparison's answer: in a form that goes for values and tests -/
abbrev CQ (Q : Bool → Hp → Prop) : VK := fun v H' => ∃ b, v = .bl b ∧ Q b H'
theorem cmpop_ok {op : CmpOp} {Qb : Bool → Prop} {R : Bool → Hp → Prop} (hu : X.A.units + 64 < cLine) (s1 : Same G H) (r1 : RepH X.K ca G H d1 x) (r2 : RepH X.K ca G H d2 y) (h : bK (cmpop op d1 d2) Qb) (hR : ∀ b, Qb b → R b H) : OW X (compareOp op) x y σ H (CQ R) := by
  unfold cmpop at h
  split at h
  · split at h
    · rename_i c
      obtain ⟨e1, e2⟩ := sc_rep c r1 r2
      exact ow_of op_eq ⟨e1, _, rfl, by rw [e2]; exact hR _ h⟩
    · cases e : datEq d1 d2 with
      | none => rw [e] at h; exact h.elim
      | some k =>
        rw [e] at h
        obtain ⟨p, q, e1, e2, s2, s3, e3⟩ := datEq_some e
        exact ow_of (op_eqD hu) ⟨p, q, dat_repH s1 r1 e1, dat_repH s1 r2 e2, s2, s3, _, rfl, by rw [e3]; exact hR _ h⟩
  · split at h
    · rename_i c
      obtain ⟨e1, e2⟩ := sc_rep c r1 r2
      exact ow_of op_ne ⟨e1, _, rfl, by rw [e2]; exact hR _ h⟩
    · cases e : datEq d1 d2 with
      | none => rw [e] at h; exact h.elim
      | some k =>
        rw [e] at h
        obtain ⟨p, q, e1, e2, s2, s3, e3⟩ := datEq_some e
        exact ow_of (op_neD hu) ⟨p, q, dat_repH s1 r1 e1, dat_repH s1 r2 e2, s2, s3, _, rfl, by rw [e3]; exact hR _ h⟩
  · cases r1; cases r2; exact ow_of op_lt ⟨_, _, rfl, rfl, _, rfl, hR _ h⟩
  · cases r1; cases r2; exact ow_of op_le ⟨_, _, rfl, rfl, _, rfl, hR _ h⟩
  · cases r1; cases r2; exact ow_of op_gt ⟨_, _, rfl, rfl, _, rfl, hR _ h⟩
  · cases r1; cases r2; exact ow_of op_ge ⟨_, _, rfl, rfl, _, rfl, hR _ h⟩
  · cases r2; exact ow_of op_isN ⟨rfl, _, rfl, by rw [isNon_rep r1]; exact hR _ h⟩
  · cases r2; exact ow_of op_notN ⟨rfl, _, rfl, by rw [isNon_rep r1]; exact hR _ h⟩
  · cases r1; cases r2; exact ow_of op_in_str ⟨_, _, rfl, rfl, _, rfl, hR _ h⟩
  · cases r1; cases r2; exact ow_of op_notIn_str ⟨_, _, rfl, rfl, _, rfl, hR _ h⟩
  · exact h.elim

/-! ### subscripts and slices -/
theorem ixN_lt {n j : Nat} {i : Int} (h : ixN n i = some j) : j < n := by
  unfold ixN at h
  split at h
  · split at h
    · cases h; omega
    · cases h
  · split at h
    · cases h; omega
    · cases h
theorem atI_rep {K : PySem.W.Frag} {xs : List D} {vs : List V} {i : Int} {d : D} (r : RepL K ca G xs vs) (h : atI xs i = some d) : ∃ v, atI vs i = some v ∧ Rep K ca G d v := by
  unfold atI at h ⊢
  rw [← r.length]
  cases e : ixN xs.length i with
  | none => rw [e] at h; cases h
  | some j => rw [e] at h; exact r.get h
theorem ix_ok {d : D} {a b : Expr} {pins : List (Addr × Obj)} {s : Shared} {v u : Value} (hs : PlainIx b) (ok : Ok X.K ca G H cs) (er : EnvR X.K ca G env σ) (r1 : RepH X.K ca G H d1 x) (r2 : Rep X.K ca G d2 y) (e : ixD d1 d2 = some d) (q : Q d false env cs)
    (I : Inv X pins σ H s) (rx : RelV x v) (ry : RelV y u) : wpAny (model X.prog X.w) X.A (subscriptTail a b v u) (EP X pins σ (PQ X ca G σ Q)) X.xe s := by
  unfold ixD at e
  split at e
  · obtain ⟨p, vs, rfl, hp, rl⟩ := r1
    cases r2
    obtain ⟨w, h1, h2⟩ := atI_rep rl e
    exact ix_list a b pins s σ H _ _ v u _ I rx ry ⟨p, vs, _, w, rfl, rfl, SqL.of hp, h1, PQ.mk ok er h2 q⟩ (hs _ _)
  · obtain ⟨p, vs, rfl, hp, rl⟩ := r1
    cases r2
    obtain ⟨w, h1, h2⟩ := atI_rep rl e
    exact ix_tup a b pins s σ H _ _ v u _ I rx ry ⟨p, vs, _, w, rfl, rfl, hp, h1, PQ.mk ok er h2 q⟩ (hs _ _)
  · obtain ⟨p, vs, rfl, hp, rl⟩ := r1
    cases r2
    obtain ⟨w, h1, h2⟩ := atI_rep rl e
    exact ix_list a b pins s σ H _ _ v u _ I rx ry ⟨p, vs, _, w, rfl, rfl, hp, h1, PQ.mk ok er h2 q⟩ (hs _ _)
  · cases r1; cases r2
    split at e
    · rename_i c
      rename_i z i
      cases e2 : atI z.cps.toList i with
      | none => rw [e2] at e; cases e
      | some k =>
        rw [e2] at e
        cases e
        exact ix_str a b pins s σ H _ _ v u _ I rx ry ⟨_, _, _, rfl, rfl, okSz_le c, e2, PQ.mk ok er (.str _) q⟩ (hs _ _)
    · cases e
  · cases e
theorem cut_rep {K : PySem.W.Frag} {xs : List D} {vs : List V} {lo hi : Option Int} (r : RepL K ca G xs vs) : RepL K ca G (cutD xs lo hi) (cutV vs lo hi) := by
  unfold cutD cutV
  rw [← r.length]
  exact (r.drop _).take _
theorem sl_ok {lo hi : Option Int} {pins : List (Addr × Obj)} {s : Shared} {v vl vu : Value} {sl : Addr} (ok : Ok X.K ca G H cs) (er : EnvR X.K ca G env σ) (r1 : RepH X.K ca G H d1 x) (h : roK (slD d1 lo hi) fun d fr => Q d fr env cs)
    (I : Inv X pins σ H s) (rx : RelV x v) (hs : s.heap.IsSliceOf sl vl vu .none) (pl : IsPart vl lo) (pu : IsPart vu hi) :
    ∃ T id, typeLookup (.type T) "__getitem__" = pure (some (.builtin id)) ∧ s.TypeIs v T ∧ wpAny (model X.prog X.w) X.A (getItem v (.ref sl)) (EP X pins σ (PQ X ca G σ Q)) X.xe s := by
  unfold slD at h
  split at h
  · cases r1
    split at h
    · rename_i c
      exact sl_str pins s σ H _ v vl vu lo hi sl _ I rx hs pl pu ⟨_, rfl, okSz_le c, PQ.mk ok er (.str _) h⟩
    · exact h.elim
  · obtain ⟨p, vs, rfl, hp, rl⟩ := r1
    exact sl_list pins s σ H _ v vl vu lo hi sl _ I rx hs pl pu ⟨p, vs, rfl, SqL.of hp, fun q hq => PQ.newL ok er hq (cut_rep rl) h⟩
  · exact h.elim

/-! ### truth -/
theorem truth_ok {d : D} {b : Bool} (r : RepH X.K ca G H d x) (h : truth d = some b) : TruV X.K x H b := by
  cases d with
  | non => cases r; cases h; rfl
  | bl k => cases r; cases h; rfl
  | int i => cases r; cases h; rfl
  | str z =>
    cases r
    have h : (if okSz z.length then some (z.length != 0) else none) = some b := h
    split at h
    · rename_i c
      cases h
      refine ⟨okSz_le c, ?_⟩
      generalize z.length = n
      cases n with
      | zero => rfl
      | succ n =>
        have e1 : (n + 1 != 0) = true := by simp
        have e2 : (((n + 1 : Nat) : Int) != 0) = true := by
          rw [bne_iff_ne]; omega
        rw [e1, e2]
    · cases h
  | lst xs =>
    obtain ⟨a, vs, rfl, h1, rl⟩ := r
    cases h
    refine .inl ⟨vs, SqL.of h1, ?_⟩
    cases rl <;> rfl
  | tup xs =>
    obtain ⟨a, vs, rfl, h1, rl⟩ := r
    cases h
    refine .inr (.inl ⟨vs, h1, ?_⟩)
    cases rl <;> rfl
  | _ => cases h
end
end Dw
set_option Elab.async false
set_option linter.all false
set_option maxRecDepth 100000
set_option maxHeartbeats 2000000
/-! Built-in functions and methods keep what they say. -/
namespace Dw
open PySem PySem.Spec PyProof.Rows L2

def RHL (K : PySem.W.Frag) (ca : Nat → Addr) (G H : Hp) : List D → List V → Prop
  | [], [] => True
  | d :: ds, v :: vs => RepH K ca G H d v ∧ RHL K ca G H ds vs
  | _, _ => False
def biV : Bi → Value
  | .len => .builtin "len"
  | .abs => .builtin "abs"
  | .max => .builtin "max"
  | .min => .builtin "min"
  | .int => .type "int"
  | .all => .builtin "all"
  | .any => .builtin "any"
  | .sum => .builtin "sum"
  | .list => .type "list"
  | .tuple => .type "tuple"
  | .divmod => .builtin "divmod"
  | .repr => .builtin "repr"
  | .sorted => .builtin "sorted"
  | .isi _ => .builtin "isinstance"
  | .isc _ => .builtin "isinstance"
theorem kit_all : ∀ n ∈ tyNs, ∀ t ∈ ["str", "int", "bool", "list", "tuple", "dict"], kitB n t = subT n t := by decide +kernel
theorem subT_mem {n t : String} {b : Bool} (h : subT n t = some b) : t ∈ ["str", "int", "bool", "list", "tuple", "dict"] := by
  unfold subT at h
  split at h
  · rename_i e; rw [e]; decide
  split at h
  · rename_i e; rw [e]; decide
  split at h
  · rename_i e; rw [e]; decide
  split at h
  · rename_i e; rw [e]; decide
  split at h
  · rename_i e; rw [e]; decide
  split at h
  · rename_i e; rw [e]; decide
  · cases h
section
variable {P : Pg} {N : List Str} {Φ : PhT} {X : Cx} {sc : Scope} {ca fa : Nat → Addr} {lv : Nat} {G H : Hp} {σ : L2.St} {cs : CS} {env : Env} {Q : QT} {ds : List D} {vs : List V}
theorem bls_rep {K : PySem.W.Frag} : ∀ {xs : List D} {bs : List Bool} {vs : List V}, RepL K ca G xs vs → blsD xs = some bs → vs = bs.map V.bl
  | _, bs, _, .nil, h => by cases h; rfl
  | _, bs, _, .cons (d := d) h1 r, h => by
    cases d with
    | bl b =>
      cases h1
      simp only [blsD] at h
      cases e : blsD _ with
      | none => rw [e] at h; cases h
      | some bs' => rw [e] at h; cases h; rw [bls_rep r e]; rfl
    | _ => cases h
theorem ints_rep {K : PySem.W.Frag} : ∀ {xs : List D} {bs : List Int} {vs : List V}, RepL K ca G xs vs → intsD xs = some bs → vs = bs.map V.int
  | _, bs, _, .nil, h => by cases h; rfl
  | _, bs, _, .cons (d := d) h1 r, h => by
    cases d with
    | int b =>
      cases h1
      simp only [intsD] at h
      cases e : intsD _ with
      | none => rw [e] at h; cases h
      | some bs' => rw [e] at h; cases h; rw [ints_rep r e]; rfl
    | _ => cases h
theorem strs_rep {K : PySem.W.Frag} : ∀ {xs : List D} {bs : List Str} {vs : List V}, RepL K ca G xs vs → strsD xs = some bs → vs = bs.map V.str
  | _, bs, _, .nil, h => by cases h; rfl
  | _, bs, _, .cons (d := d) h1 r, h => by
    cases d with
    | str b =>
      cases h1
      simp only [strsD] at h
      cases e : strsD _ with
      | none => rw [e] at h; cases h
      | some bs' => rw [e] at h; cases h; rw [strs_rep r e]; rfl
    | _ => cases h
theorem roK_map {α : Type} {o : Option α} {f : α → D × Bool} {R : D → Bool → Prop} (h : roK (o.map f) R) : ∃ a, o = some a ∧ R (f a).1 (f a).2 := by
  cases o with
  | none => exact h.elim
  | some a => exact ⟨a, rfl, h⟩
theorem tup_ty {K : PySem.W.Frag} {a : Addr} {vs : List V} (h : SqT K H a vs) : TyX K H (.ref a) (.type "tuple") := by
  rcases h with (h | ⟨o, h⟩) | h
  · exact .base (.tup h)
  · exact .fTuple h
  · obtain ⟨o, its, n, h1, h2, _⟩ := h
    exact .kTuple h1 h2
theorem ty_rep' {K : PySem.W.Frag} {d : D} {v : V} {n : String} (r : RepH K ca G H d v) (h : tyN d = some n) : TyX K H v (.type n) ∧ n ∈ tyNs := by
  cases d with
  | non => cases r; cases h; exact ⟨.base .non, by decide⟩
  | bl b => cases r; cases h; exact ⟨.base (.bl b), by decide⟩
  | int b => cases r; cases h; exact ⟨.base (.int b), by decide⟩
  | str b => cases r; cases h; exact ⟨.base (.str b), by decide⟩
  | lst xs => obtain ⟨a, vs, rfl, h1, _⟩ := r; cases h; exact ⟨.base (.lst h1), by decide⟩
  | tup xs => obtain ⟨a, vs, rfl, h1, _⟩ := r; cases h; exact ⟨tup_ty h1, by decide⟩
  | dic xs => obtain ⟨a, vs, rfl, h1, _⟩ := r; cases h; exact ⟨.base (.dK h1), by decide⟩
  | _ => cases h
theorem vals_at : ∀ (vs : List V) (us : List Value), vs.length = us.length → (∀ (i : Nat) (v : V) (u : Value), vs[i]? = some v → us[i]? = some u → RelV v u) → Vals vs us
  | [], [], _, _ => .nil
  | [], _ :: _, h, _ => by simp at h
  | _ :: _, [], h, _ => by simp at h
  | v :: vs, u :: us, h, f => .cons (f 0 v u rfl rfl) (vals_at vs us (by simpa using h) fun i x y h1 h2 => f (i + 1) x y (by simpa using h1) (by simpa using h2))
/-- list(a text) -/
theorem call_list_txt (hc : X.calm = true) : CallR X (.type "list") (fun xs H Q => ∃ z : Str, xs = [.str z] ∧ z.length ≤ sizeLine ∧ ∀ l, H l = none → Q (.ref l) (upd H l (.lst (z.cps.toList.map fun c => V.str ⟨#[c]⟩)))) := by
  intro pins s σ H xs us Q I r h
  obtain ⟨z, rfl, hz, q⟩ := h
  cases r with
  | cons r1 r2 =>
    cases r2
    obtain ⟨t, rfl⟩ := r1
    refine call_list_str (I.ok.hd hc) z t (fun h' tk acc c hk ho it => ?_) hz
    refine ⟨.ref _, upd H s.heap.objs.size (.lst (z.cps.toList.map fun c => V.str ⟨#[c]⟩)), I.laid hk (Nat.le_refl _) (show ObjOk X.prog X.w _ _ _ (.lst (z.cps.toList.map fun c => V.str ⟨#[c]⟩)) from ⟨?_, acc.toList, c, vals_at _ _ ?_ fun i v u h1 h2 => ?_, ?_⟩), rfl, q _ (I.hok.fresh (Nat.le_refl _))⟩
    · rw [List.length_map, Array.length_toList]; exact hz
    · rw [List.length_map, Array.length_toList, Array.length_toList]; exact it.1.symm
    · rw [List.getElem?_map] at h1
      obtain ⟨k, u', e1, e2⟩ := it.2 i u (by rw [← Array.getElem?_toList]; exact h2)
      rw [← Array.getElem?_toList] at e1
      rw [e1] at h1
      cases h1
      exact ⟨u', e2⟩
    · rw [Array.toArray_toList]; exact ho
theorem chars_rep {K : PySem.W.Frag} : ∀ cs : List Nat, RepL K ca G (cs.map fun c => D.str ⟨#[c]⟩) (cs.map fun c => V.str ⟨#[c]⟩)
  | [] => .nil
  | _ :: r => .cons (.str _) (chars_rep r)
/-- a call of a built-in, its arguments told -/
theorem bi_ok {b : Bi} (hc : X.calm = true) (ok : Ok X.K ca G H cs) (er : EnvR X.K ca G env σ) (r : RHL X.K ca G H ds vs) (h : roK (biop b ds) fun d fr => Q d fr env cs) (hb : ∀ t, b ≠ .isi t) (hb2 : ∀ t, b ≠ .isc t) :
    ∀ (pins : List (Addr × Obj)) (s : Shared) (us : List Value), Inv X pins σ H s → Vals vs us → wpAny (model X.prog X.w) X.A (call (biV b) us) (EP X pins σ (PQ X ca G σ Q)) X.xe s := by
  intro pins s us I rv
  have one : ∀ {d : D}, RHL X.K ca G H [d] vs → ∃ v, vs = [v] ∧ RepH X.K ca G H d v := fun {d} r => by
    cases vs with
    | nil => exact r.elim
    | cons v vs => cases vs with
      | nil => exact ⟨v, rfl, r.1⟩
      | cons _ _ => exact r.2.elim
  have two : ∀ {d e : D}, RHL X.K ca G H [d, e] vs → ∃ v w, vs = [v, w] ∧ RepH X.K ca G H d v ∧ RepH X.K ca G H e w := fun {d e} r => by
    cases vs with
    | nil => exact r.elim
    | cons v vs => cases vs with
      | nil => exact r.2.elim
      | cons w vs => cases vs with
        | nil => exact ⟨v, w, rfl, r.1, r.2.1⟩
        | cons _ _ => exact r.2.2.elim
  unfold biop at h
  split at h
  · obtain ⟨v, rfl, r1⟩ := one r
    cases r1
    split at h
    · rename_i c
      exact call_len pins s σ H _ us _ I rv ⟨.str _, _, rfl, (show _ ∧ _ from ⟨okSz_le c, rfl⟩), PQ.mk ok er (.int _) h⟩
    · exact h.elim
  · obtain ⟨v, rfl, a, ws, rfl, h1, rl⟩ := one r
    exact call_len pins s σ H _ us _ I rv ⟨.ref a, _, rfl, Or.inl ⟨ws, SqL.of h1, rfl⟩, PQ.mk ok er (by rw [← rl.length]; exact .int _) h⟩
  · obtain ⟨v, rfl, a, ws, rfl, h1, rl⟩ := one r
    exact call_len pins s σ H _ us _ I rv ⟨.ref a, _, rfl, Or.inr ⟨ws, h1, rfl⟩, PQ.mk ok er (by rw [← rl.length]; exact .int _) h⟩
  · obtain ⟨v, rfl, a, ws, rfl, h1, rl⟩ := one r
    exact call_len pins s σ H _ us _ I rv ⟨.ref a, _, rfl, Or.inl ⟨ws, h1, rfl⟩, PQ.mk ok er (by rw [← rl.length]; exact .int _) h⟩
  · obtain ⟨v, rfl, r1⟩ := one r
    cases r1
    exact call_abs pins s σ H _ us _ I rv ⟨_, rfl, PQ.mk ok er (.int _) h⟩
  · obtain ⟨v, w, rfl, r1, r2⟩ := two r
    cases r1; cases r2
    exact call_max2 hc pins s σ H _ us _ I rv ⟨_, _, rfl, PQ.mk ok er (.int _) h⟩
  · obtain ⟨v, w, rfl, r1, r2⟩ := two r
    cases r1; cases r2
    exact call_min2 hc pins s σ H _ us _ I rv ⟨_, _, rfl, PQ.mk ok er (.int _) h⟩
  · obtain ⟨v, rfl, r1⟩ := one r
    cases r1
    exact call_int1 pins s σ H _ us _ I rv (.inl ⟨_, rfl, PQ.mk ok er (.int _) h⟩)
  · obtain ⟨v, rfl, r1⟩ := one r
    cases r1
    exact call_int1 pins s σ H _ us _ I rv (.inr ⟨_, rfl, PQ.mk ok er (.int _) h⟩)
  · obtain ⟨v, rfl, a, ws, rfl, h1, rl⟩ := one r
    obtain ⟨bs, e, q⟩ := roK_map h
    rw [bls_rep rl e] at h1
    exact cr_all hc pins s σ H _ us _ I rv ⟨a, bs, rfl, SqL.of h1, PQ.mk ok er (.bl _) q⟩
  · obtain ⟨v, rfl, a, ws, rfl, h1, rl⟩ := one r
    obtain ⟨bs, e, q⟩ := roK_map h
    rw [bls_rep rl e] at h1
    exact cr_any hc pins s σ H _ us _ I rv ⟨a, bs, rfl, SqL.of h1, PQ.mk ok er (.bl _) q⟩
  · obtain ⟨v, rfl, a, ws, rfl, h1, rl⟩ := one r
    obtain ⟨bs, e, q⟩ := roK_map h
    rw [ints_rep rl e] at h1
    exact cr_sum hc pins s σ H _ us _ I rv ⟨a, bs, rfl, SqL.of h1, PQ.mk ok er (.int _) q⟩
  · obtain ⟨v, rfl, a, ws, rfl, h1, rl⟩ := one r
    exact call_list_of pins s σ H _ us _ I rv ⟨a, ws, rfl, .inl (SqL.of h1), fun l hl => PQ.newL ok er hl rl h⟩
  · obtain ⟨v, rfl, a, ws, rfl, h1, rl⟩ := one r
    exact call_list_of pins s σ H _ us _ I rv ⟨a, ws, rfl, .inr h1, fun l hl => PQ.newL ok er hl rl h⟩
  · obtain ⟨v, rfl, r1⟩ := one r
    cases r1
    split at h
    · rename_i c
      exact call_list_txt hc pins s σ H _ us _ I rv ⟨_, rfl, okSz_le c, fun l hl => PQ.newL ok er hl (chars_rep _) h⟩
    · exact h.elim
  · obtain ⟨v, rfl, a, ws, rfl, h1, rl⟩ := one r
    exact call_tuple_of pins s σ H _ us _ I rv ⟨a, ws, rfl, .inl ⟨SqL.of h1, fun l hl => PQ.newT ok er hl rl h⟩⟩
  · obtain ⟨v, w, rfl, r1, r2⟩ := two r
    cases r1; cases r2
    split at h
    · rename_i c
      simp only [Bool.and_eq_true, decide_eq_true_eq] at c
      exact call_divmod pins s σ H _ us _ I rv ⟨_, _, rfl, c, fun p hp => PQ.newT ok er hp (.cons (.int _) (.cons (.int _) .nil)) h⟩
    · exact h.elim
  · exact absurd rfl (hb _)
  · exact h.elim
end
end Dw
set_option Elab.async false
set_option linter.all false
set_option maxRecDepth 100000
set_option maxHeartbeats 2000000
/-! Methods of built-in values; what a for walks. -/
namespace Dw
open PySem PySem.Spec PyProof.Rows L2

def bmId : Bm → String
  | .join => "str.join"
  | .find => "str.find"
  | .isascii => "str.isascii"
  | .isalpha => "str.isalpha"
  | .islower => "str.islower"
  | .strip => "str.strip"
  | .index => "str.index"
  | .append => "list.append"
section
variable {P : Pg} {N : List Str} {Φ : PhT} {X : Cx} {sc : Scope} {ca fa : Nat → Addr} {lv : Nat} {G H : Hp} {σ : L2.St} {cs : CS} {env : Env} {Q : QT} {ds : List D} {vs : List V} {d : D} {x : V}
theorem bm_ok {m : Bm} (ok : Ok X.K ca G H cs) (er : EnvR X.K ca G env σ) (ro : RepH X.K ca G H d x) (r : RHL X.K ca G H ds vs) (h : roK (bmop m d ds) fun d fr => Q d fr env cs) :
    ∀ (pins : List (Addr × Obj)) (s : Shared) (v : Value) (us : List Value), Inv X pins σ H s → RelV x v → Vals vs us → wpAny (model X.prog X.w) X.A (call (.builtin (bmId m)) (v :: us)) (EP X pins σ (PQ X ca G σ Q)) X.xe s := by
  intro pins s v us I rx rv
  have zero : RHL X.K ca G H [] vs → vs = [] := fun r => by
    cases vs with
    | nil => rfl
    | cons v vs => exact r.elim
  have one : ∀ {d : D}, RHL X.K ca G H [d] vs → ∃ v, vs = [v] ∧ RepH X.K ca G H d v := fun {d} r => by
    cases vs with
    | nil => exact r.elim
    | cons v vs => cases vs with
      | nil => exact ⟨v, rfl, r.1⟩
      | cons _ _ => exact r.2.elim
  have two : ∀ {d e : D}, RHL X.K ca G H [d, e] vs → ∃ v w, vs = [v, w] ∧ RepH X.K ca G H d v ∧ RepH X.K ca G H e w := fun {d e} r => by
    cases vs with
    | nil => exact r.elim
    | cons v vs => cases vs with
      | nil => exact r.2.elim
      | cons w vs => cases vs with
        | nil => exact ⟨v, w, rfl, r.1, r.2.1⟩
        | cons _ _ => exact r.2.2.elim
  unfold bmop at h
  split at h
  · cases ro
    obtain ⟨w, rfl, a, ws, rfl, h1, rl⟩ := one r
    rename_i s' xs
    cases e : strsD xs with
    | none => rw [e] at h; exact h.elim
    | some ys =>
      rw [e] at h
      have h : roK (if decide ((ys.map Str.length).sum + ys.length * s'.length ≤ 16777216) then some (.str (Txt.join s' ys), false) else none) fun d fr => Q d fr env cs := h
      split at h
      · rename_i c
        rw [strs_rep rl e] at h1
        exact mt_join pins s σ H _ _ v us _ I rx rv ⟨s', a, ys, rfl, rfl, .inl (SqL.of h1), of_decide_eq_true c, PQ.mk ok er (.str _) h⟩
      · exact h.elim
  · cases ro
    obtain ⟨w1, w2, rfl, r1, r2⟩ := two r
    cases r1; cases r2
    exact mt_find3 pins s σ H _ _ v us _ I rx rv ⟨_, _, _, rfl, rfl, PQ.mk ok er (.int _) h⟩
  · cases ro
    obtain ⟨w1, rfl, r1⟩ := one r
    cases r1
    exact mt_find pins s σ H _ _ v us _ I rx rv ⟨_, _, rfl, rfl, PQ.mk ok er (.int _) h⟩
  · cases ro
    cases zero r
    exact mt_isascii pins s σ H _ _ v us _ I rx rv ⟨_, rfl, rfl, True.intro, PQ.mk ok er (.bl _) h⟩
  · cases ro
    cases zero r
    exact mt_isalpha pins s σ H _ _ v us _ I rx rv ⟨_, rfl, rfl, True.intro, PQ.mk ok er (.bl _) h⟩
  · cases ro
    cases zero r
    exact mt_islower pins s σ H _ _ v us _ I rx rv ⟨_, rfl, rfl, True.intro, PQ.mk ok er (.bl _) h⟩
  · cases ro
    obtain ⟨w1, rfl, r1⟩ := one r
    cases r1
    split at h
    · rename_i c
      exact mt_stripChars pins s σ H _ _ v us _ I rx rv ⟨_, _, rfl, rfl, okSz_le c, PQ.mk ok er (.str _) h⟩
    · exact h.elim
  · cases ro
    obtain ⟨w1, rfl, r1⟩ := one r
    cases r1
    rename_i s' t'
    cases e : Builtin.Str.occurrences s' t' 0 s'.length 1 with
    | nil => rw [e] at h; exact h.elim
    | cons i rest =>
      rw [e] at h
      exact mt_sindex pins s σ H _ _ v us _ I rx rv ⟨_, _, i, rest, rfl, rfl, e, PQ.mk ok er (.int _) h⟩
  · exact h.elim
theorem eqV_int {a b : Int} : eqV (.int a) (.int b) = (a == b) := rfl
theorem lix_ok (ok : Ok X.K ca G H cs) (er : EnvR X.K ca G env σ) (ro : RepH X.K ca G H d x) (r : RHL X.K ca G H ds vs) (h : roK (lixop d ds) fun d fr => Q d fr env cs) :
    ∀ (pins : List (Addr × Obj)) (s : Shared) (v : Value) (us : List Value), Inv X pins σ H s → RelV x v → Vals vs us → wpAny (model X.prog X.w) X.A (call (.builtin "list.index") (v :: us)) (EP X pins σ (PQ X ca G σ Q)) X.xe s := by
  intro pins s v us I rx rv
  have one : ∀ {d : D}, RHL X.K ca G H [d] vs → ∃ v, vs = [v] ∧ RepH X.K ca G H d v := fun {d} r => by
    cases vs with
    | nil => exact r.elim
    | cons v vs => cases vs with
      | nil => exact ⟨v, rfl, r.1⟩
      | cons _ _ => exact r.2.elim
  have go : ∀ {a : Addr} {xs : List D} {ws : List V} {i : Int}, SqL X.K H a ws → RepL X.K ca G xs ws → x = .ref a → vs = [.int i] →
      (roK ((intsD xs).bind fun js => (js.findIdx? (· == i)).map fun k => ((.int (k : Nat) : D), false)) fun d fr => Q d fr env cs) → wpAny (model X.prog X.w) X.A (call (.builtin "list.index") (v :: us)) (EP X pins σ (PQ X ca G σ Q)) X.xe s := by
    intro a xs ws i sq rl ex ev h
    subst ex; subst ev
    cases e : intsD xs with
    | none => rw [e] at h; exact h.elim
    | some js =>
      rw [e] at h
      rw [ints_rep rl e] at sq
      cases e2 : js.findIdx? (· == i) with
      | none => simp only [Option.bind_some, e2] at h; exact h.elim
      | some k =>
        simp only [Option.bind_some, e2, Option.map_some] at h
        obtain ⟨hk, h1, h2⟩ := List.findIdx?_eq_some_iff_getElem.mp e2
        refine mt_index pins s σ H _ _ v us _ I rx rv ⟨a, _, .int i, k, .int js[k], rfl, rfl, sq, rfl, by simp [flatV], by simp [List.getElem?_eq_getElem hk], h1, fun m z' hm hz => ?_, PQ.mk ok er (.int _) h⟩
        rw [List.getElem?_map] at hz
        have hm2 : m < js.length := Nat.lt_trans hm hk
        rw [List.getElem?_eq_getElem hm2] at hz
        cases hz
        have := h2 m hm
        rw [eqV_int]
        simpa using this
  unfold lixop at h
  split at h
  · obtain ⟨a, ws, rfl, h1, rl⟩ := ro
    obtain ⟨w1, rfl, r1⟩ := one r
    cases r1
    exact go (SqL.of h1) rl rfl rfl h
  · obtain ⟨a, ws, rfl, h1, rl⟩ := ro
    obtain ⟨w1, rfl, r1⟩ := one r
    cases r1
    exact go h1 rl rfl rfl h
  · exact h.elim
end

/-! ### what a for walks -/
def ItOk (K : PySem.W.Frag) (ca : Nat → Addr) (G : Hp) (J : It) (its : List D) : Prop :=
  ∀ (i : Nat) (H : Hp), Same G H → (∀ d, its[i]? = some d → J.go i H ∧ ∀ x H2, J.yld i H x H2 → H2 = H ∧ Rep K ca G d x) ∧ (its[i]? = none → J.stop i H)
theorem itOk_list {K : PySem.W.Frag} {ca : Nat → Addr} {G : Hp} {a : Addr} {xs : List D} {vs : List V} (h : SqL K G a vs) (r : RepL K ca G xs vs) : ItOk K ca G (Itl K a) xs := by
  refine fun i H s => ⟨fun d e => ?_, fun e => ?_⟩
  · obtain ⟨y, h1, h2⟩ := r.get e
    refine ⟨⟨vs, y, sqL_same s h, h1⟩, fun x H2 ⟨e1, e2⟩ => ⟨e1, ?_⟩⟩
    have := e2 vs (sqL_same s h)
    rw [h1] at this; cases this; exact h2
  · refine ⟨vs, sqL_same s h, ?_⟩
    rw [← r.length]
    exact List.getElem?_eq_none_iff.mp e
theorem itOk_tup {K : PySem.W.Frag} {ca : Nat → Addr} {G : Hp} {a : Addr} {xs : List D} {vs : List V} (h : SqT K G a vs) (r : RepL K ca G xs vs) : ItOk K ca G (Itt K a) xs := by
  refine fun i H s => ⟨fun d e => ?_, fun e => ?_⟩
  · obtain ⟨y, h1, h2⟩ := r.get e
    refine ⟨⟨vs, y, sqT_same s h, h1⟩, fun x H2 ⟨e1, e2⟩ => ⟨e1, ?_⟩⟩
    have := e2 vs (sqT_same s h)
    rw [h1] at this; cases this; exact h2
  · refine ⟨vs, sqT_same s h, ?_⟩
    rw [← r.length]
    exact List.getElem?_eq_none_iff.mp e
theorem itOk_str {K : PySem.W.Frag} {ca : Nat → Addr} {G : Hp} {x : Str} : ItOk K ca G (Its x) (x.cps.toList.map fun c => D.str ⟨#[c]⟩) := by
  refine fun i H s => ⟨fun d e => ?_, fun e => ?_⟩
  · rw [List.getElem?_map] at e
    cases e2 : x.cps.toList[i]? with
    | none => rw [e2] at e; cases e
    | some c =>
      rw [e2] at e
      cases e
      have hi : i < x.cps.size := by
        have := (List.getElem?_eq_some_iff.mp e2).1
        simpa using this
      refine ⟨hi, fun y H2 ⟨e3, c', e4, e5⟩ => ⟨e3, ?_⟩⟩
      rw [← Array.getElem?_toList] at e4
      rw [e2] at e4
      cases e4
      rw [e5]; exact .str _
  · rw [List.getElem?_map] at e
    have e : x.cps.toList[i]? = none := by
      cases e2 : x.cps.toList[i]? with
      | none => rfl
      | some c => rw [e2] at e; cases e
    have := List.getElem?_eq_none_iff.mp e
    show x.cps.size ≤ i
    simpa using this
theorem itOk_rng {K : PySem.W.Frag} {ca : Nat → Addr} {G : Hp} {lo : Int} {n : Nat} : ItOk K ca G (Itr lo n) (rngI lo n) := by
  refine fun i H s => ⟨fun d e => ?_, fun e => ?_⟩
  · unfold rngI at e
    rw [List.getElem?_map] at e
    by_cases hi : i < n
    · rw [List.getElem?_range hi] at e
      cases e
      refine ⟨hi, fun y H2 ⟨e3, e4⟩ => ⟨e3, ?_⟩⟩
      rw [e4]; exact .int _
    · rw [List.getElem?_eq_none (by simpa using hi)] at e; cases e
  · unfold rngI at e
    rw [List.getElem?_map] at e
    show n ≤ i
    rcases Nat.lt_or_ge i n with hi | hi
    · rw [List.getElem?_range hi] at e; cases e
    · exact hi
section
variable {X : Cx} {ca : Nat → Addr} {G H : Hp} {σ : L2.St} {pins : List (Addr × Obj)} {s : Shared} {tg : Expr} {R : It → Hp → Prop} {d : D} {x : V} {v : Value} {its : List D}
theorem iter_ok (ok : Same G H) (r : Rep X.K ca G d x) (e : items d = some its) (I : Inv X pins σ H s) (rv : RelV x v) (q : ∀ J, ItOk X.K ca G J its → R J H) : wpAny (model X.prog X.w) X.A (pyIter v) (PIE X pins σ tg R) X.xe s := by
  have hL : ∀ {a : Addr} {vs : List V} {xs : List D}, SqL X.K G a vs → RepL X.K ca G xs vs → xs = its → wpAny (model X.prog X.w) X.A (pyIter (.ref a)) (PIE X pins σ tg R) X.xe s := fun {a vs xs} h r e => by
    obtain ⟨us, rv, p, hz⟩ := I.list (sqL_same ok h)
    refine wpAny_pyIter_list p.isList ?_
    refine ⟨s.heap.objs.size, [s.heap.objs.size], _, _, H, rfl, I.kept (t' := s.toks) fun b o e => Heap.get?_push_of_some _ e, turn_list a _, ⟨_, Heap.get?_push_size _ rfl, rfl, rfl⟩, fun b hb => ?_, q _ (e ▸ itOk_list h r)⟩
    have e : b = s.heap.objs.size := by simpa using hb
    subst e
    exact I.fpOk (Nat.le_refl _) (I.hok.fresh (Nat.le_refl _))
  cases r with
  | lst h r => cases rv; cases e; exact hL (SqL.of h) r rfl
  | rol h r => cases rv; cases e; exact hL h r rfl
  | tup h r =>
    cases rv; cases e
    rename_i a vs
    obtain ⟨us, rv, p, hz⟩ := I.tuple (sqT_same ok h)
    refine wpAny_pyIter_tuple (show s.heap.IsTuple a us.toArray from p) ?_
    refine ⟨s.heap.objs.size, [s.heap.objs.size], _, _, H, rfl, I.kept (t' := s.toks) fun b o e => Heap.get?_push_of_some _ e, turn_tuple a _, ⟨_, Heap.get?_push_size _ rfl, rfl, rfl⟩, fun b hb => ?_, q _ (itOk_tup h r)⟩
    have e : b = s.heap.objs.size := by simpa using hb
    subst e
    exact I.fpOk (Nat.le_refl _) (I.hok.fresh (Nat.le_refl _))
  | str y =>
    obtain ⟨t, rfl⟩ := rv
    cases e
    cases ha : y.cps.all (· < 128)
    · exact wpAny_pyIter_wide ha (pi_one (tk := s.toks) I _ (turn_str _ y t "str_iterator" (.inr rfl)) ⟨_, Heap.get?_push_size _ rfl, rfl, rfl⟩ (q _ itOk_str))
    · exact wpAny_pyIter_ascii ha (pi_one (tk := s.toks) I _ (turn_str _ y t "str_ascii_iterator" (.inl rfl)) ⟨_, Heap.get?_push_size _ rfl, rfl, rfl⟩ (q _ itOk_str))
  | _ => cases e
end
end Dw
set_option Elab.async false
set_option linter.all false
set_option maxRecDepth 100000
set_option maxHeartbeats 4000000
/-! sorted(set(..)) of texts. -/
namespace Dw
open PySem PySem.Spec PyProof.Rows L2 PySem.Froz
/-- a value's text -/
def tx (v : Value) : Str := match v with
  | .str x _ => x
  | _ => Str.empty
/-- a set's payload: the texts l, each once; it can be walked -/
structure Tab (pr : Program) (wd : World) (D : SD) (l : List Str) : Prop where
  ok : TxOk pr wd D l
  ris : Ris D.2.2.place.toList
  led : wd.params.followText "set-order" = true ∨ D.2.2.led = true
  nd : l.Nodup
section
variable {pr : Program} {wd : World}
theorem Tab.put {D : SD} {l : List Str} {k : Str} (u : Tok) (F : Tab pr wd D l) (hk : k ∉ l) : Tab pr wd (addTx (hashStr wd k) (.str k u) D) (k :: l) := by
  have r1 := layNew_ris D.2.2 D.1 (hashStr wd k) (.str k u) F.ris
  have l1 := layNew_led D.2.2 D.1 (hashStr wd k) (.str k u)
  have key : ∀ t : SetTable, Ris t.place.toList → t.led = D.2.2.led → ∀ b, Ris (tailTx D.2.1 (layNew D.2.2 D.1 (hashStr wd k) (.str k u)).1 t b).2.2.place.toList ∧ (tailTx D.2.1 (layNew D.2.2 D.1 (hashStr wd k) (.str k u)).1 t b).2.2.led = D.2.2.led := by
    intro t h1 h2 b
    unfold tailTx
    split
    · exact ⟨relayAll_ris _ _ _, (relayAll_led _ _ _).trans h2⟩
    · exact ⟨h1, h2⟩
  have fin : Ris (addTx (hashStr wd k) (.str k u) D).2.2.place.toList ∧ (addTx (hashStr wd k) (.str k u) D).2.2.led = D.2.2.led := by
    unfold addTx
    split
    · exact key ({ (layNew D.2.2 D.1 (hashStr wd k) (.str k u)).2.1 with plain := false }) r1 l1 _
    · exact key _ r1 l1 _
  exact ⟨add_ok u F.ok, fin.1, F.led.imp id fun z => fin.2.trans z, List.nodup_cons.mpr ⟨hk, F.nd⟩⟩
theorem Tab.nil {b : Bool} (h : wd.params.followText "set-order" = true ∨ (SetTable.fresh 0 0 b).led = true) : Tab pr wd (#[], 0, .fresh 0 0 b) [] :=
  ⟨TxOk.nil rfl, by show Ris []; exact List.Pairwise.nil, h, List.nodup_nil⟩
end
section
variable {pr : Program} {wd : World} {A : Around} {E : Value → Shared → Prop} {s : Shared}
/-- a text joins the set, if it is not there -/
theorem put_text {a : Addr} {D : SD} {l : List Str} {k : Str} {u : Tok} {R : Bool → Shared → Prop} (at_ : s.heap.get? a = some (sObj "set" D)) (F : Tab pr wd D l) (room : l.length + 1 < scanBound)
    (q : ∀ D' l' hp b, Tab pr wd D' l' → (∀ x, x ∈ l' ↔ x ∈ l ∨ x = k) → l'.length ≤ l.length + 1 → hp.get? a = some (sObj "set" D') → Heap.SameBut a s.heap hp → R b { s with heap := hp }) :
    wpAny (model pr wd) A (setAddHashed a (.str k u) (hashStr wd k)) R E s := by
  by_cases hk : k ∈ l
  · obtain ⟨cells, ep, tb⟩ := D
    have key : (strKind pr wd).is k (.str k u) = true := is_str k u
    have few : cells.size < scanBound := by have : cells.size = l.length := F.ok.sz; omega
    unfold setAddHashed setAddHashedIn
    refine wpAny_holding (wpAny_bind (wpAny_setState_of at_ rfl F.ok.fit ?_))
    dsimp only
    rw [byScan_of rfl few F.ok.el]
    simp only [↓reduceIte]
    unfold setAddByScan
    refine wpAny_bind (wpAny_bind (wpAny_rule (wpAny_bind (wpAny_setScan_of (knd := strKind pr wd) (k := k) key at_ rfl F.ok.fit F.ok.el ?_))))
    cases hf : List.findIdx? (fun c => (strKind pr wd).is k c.2) cells.toList with
    | none =>
      obtain ⟨c, hc, hc2⟩ := (F.ok.mem k).mp hk
      have := List.findIdx?_eq_none_iff.mp hf c hc
      rw [hc2] at this; cases this
    | some j =>
      dsimp only
      exact wpAny_pure (wpAny_pure (q _ l s.heap _ F (fun x => ⟨.inl, fun h => h.elim id fun e => e ▸ hk⟩) (Nat.le_succ _) at_ (Heap.SameBut.refl a s.heap)))
  · refine add_x at_ F.ok hk room ?_
    exact q _ (k :: l) _ _ (F.put u hk) (fun x => by rw [List.mem_cons]; exact Or.comm) (Nat.le_refl _) (get_upd _ at_ rfl) (Heap.SameBut.update s.heap a _)
end
theorem perm_of : ∀ (l m : List Str), l.Nodup → (∀ x ∈ l, x ∈ m) → m.length = l.length → l.Perm m
  | [], m, _, _, h => by
    have e : m = [] := List.eq_nil_of_length_eq_zero h
    subst e; exact List.Perm.refl _
  | x :: r, m, nd, sub, h => by
    obtain ⟨n1, n2⟩ := List.nodup_cons.mp nd
    have hx := sub x List.mem_cons_self
    have hl : (m.erase x).length = r.length := by rw [List.length_erase_of_mem hx, h]; rfl
    have hs : ∀ y ∈ r, y ∈ m.erase x := fun y hy => (List.mem_erase_of_ne (fun e => n1 (by rw [← e]; exact hy))).mpr (sub y (List.mem_cons_of_mem _ hy))
    exact ((perm_of r (m.erase x) n2 hs hl).cons x).trans (List.perm_cons_erase hx).symm
theorem sub_len : ∀ (l m : List Str), l.Nodup → (∀ x ∈ l, x ∈ m) → l.length ≤ m.length
  | [], m, _, _ => Nat.zero_le _
  | x :: r, m, nd, sub => by
    obtain ⟨n1, n2⟩ := List.nodup_cons.mp nd
    have hx := sub x List.mem_cons_self
    have hs : ∀ y ∈ r, y ∈ m.erase x := fun y hy => (List.mem_erase_of_ne (fun e => n1 (by rw [← e]; exact hy))).mpr (sub y (List.mem_cons_of_mem _ hy))
    have := sub_len r (m.erase x) n2 hs
    rw [List.length_erase_of_mem hx] at this
    have hp : 0 < m.length := List.length_pos_of_mem hx
    show r.length + 1 ≤ m.length
    omega
theorem strs_tx : ∀ (vs : List Value), (∀ v ∈ vs, ∃ x t, v = Value.str x t) → StrsAre vs (vs.map tx)
  | [], _ => .nil
  | v :: r, h => by
    obtain ⟨x, t, rfl⟩ := h v List.mem_cons_self
    exact .cons x t (strs_tx r fun y hy => h y (List.mem_cons_of_mem _ hy))
/-- what set(..) walks: n values, P tells them -/
structure Itb (pr : Program) (wd : World) (s : Shared) (v : Value) (n : Nat) (P : Nat → Value → Prop) : Prop where
  ty : ∃ T : String, isSubtype (.type T) (.type "set") = pure false ∧ isSubtype (.type T) (.type "frozenset") = pure false ∧ T ≠ "dict" ∧ ∀ s1 : Shared, (∀ b o, s.heap.get? b = some o → s1.heap.get? b = some o) → s1.TypeIs v T
  it : ∀ (A : Around) (E : Value → Shared → Prop) (s1 : Shared) (R : Value → Shared → Prop), (∀ b o, s.heap.get? b = some o → s1.heap.get? b = some o) →
    (∀ (o : Obj) (fp : List Addr) (St : Nat → Heap → Prop), (∀ A' : Around, A'.handled = none → Walks pr wd A' s1.heap.objs.size fp [s1.heap.objs.size] n P St) → (∀ b ∈ fp, b = s1.heap.objs.size ∨ b < s.heap.objs.size) → St 0 (s1.heap.push o) →
      R (.ref s1.heap.objs.size) { s1 with heap := s1.heap.push o }) → wpAny (model pr wd) A (pyIter v) R E s1
section
variable {pr : Program} {wd : World} {A : Around} {R : Result → Shared → Prop} {I : Addr} {fp wr : List Addr} {G : Array GenState → Array GenState → Prop} {n : Nat} {P : Nat → Value → Prop} {St : Nat → Shared → Prop}
/-- the loop behind set(..), over texts -/
theorem upd_loop (W : WalksS pr wd A.in1 I fp wr G n P St) (a : Addr) (hfp : a ∉ fp) (xs M : List Str) (hn : xs.length = n) (hM : ∀ x ∈ xs, x ∈ M) (hb : M.length + 1 < scanBound) (val : ∀ i v, P i v → ∃ t, v = .str (xs.getD i Str.empty) t) :
    ∀ (left i : Nat) (s : Shared) (D : SD) (l : List Str), n - i = left → i ≤ n → St i s → s.heap.get? a = some (sObj "set" D) → Tab pr wd D l → (∀ x, x ∈ l ↔ x ∈ xs.take i) →
      (∀ s' D' l', Moved (a :: wr) G s s' → s'.heap.get? a = some (sObj "set" D') → Tab pr wd D' l' → (∀ x, x ∈ l' ↔ x ∈ xs) → R (.ok (.ret .none)) s') →
      codeAny (model pr wd) A (.builtin "set.update.loop" ⟨[.ref a, .ref I], []⟩) R s := by
  have hwr : a ∉ wr := fun h => hfp (W.sub _ h)
  have up : ∀ b ∈ wr, b ∈ a :: wr := fun b hb => List.mem_cons_of_mem _ hb
  intro left
  induction left with
  | zero =>
    intro i s D l e hi st ha F mem q
    have e : i = n := by omega
    subst e
    refine codeAny_builtin PyProof.Rows.F.entry_set_update_loop (by
      rw [Around.under_plainId PyProof.Rows.F.plain_set_update_loop _]
      refine wpAny_bind (W.done s _ _ st fun s' mv => wpAny_pure (q s' D l (mv.mono up) (mv.heap a _ hwr ha) F (fun x => ?_)))
      rw [mem, List.take_of_length_le (by omega)])
  | succ left ih =>
    intro i s D l e hi st ha F mem q
    refine codeAny_builtin PyProof.Rows.F.entry_set_update_loop (by
      rw [Around.under_plainId PyProof.Rows.F.plain_set_update_loop _]
      refine wpAny_bind (W.item i s _ _ (by omega) st fun v s1 hP st1 mv => ?_)
      obtain ⟨t, rfl⟩ := val i v hP
      have ha1 := mv.heap a _ hwr ha
      refine wpAny_bind (wpAny_holding (wpAny_holding (wpAny_bind ((strKind pr wd).pyHash (k := xs.getD i Str.empty) (is_str _ _) ?_))))
      refine put_text (s := { s1 with toks := s1.toks + 1 }) ha1 F (by have := sub_len l M F.nd fun x hx => hM x (List.mem_of_mem_take ((mem x).mp hx)); omega) fun D' l' hp b F' mem' hl' ha' sb => ?_
      refine wpAny_pure ⟨plainId_quiet PyProof.Rows.F.plain_set_update_loop _, ih (i + 1) _ D' l' (by omega) (by omega) (W.frame _ s1 _ _ st1 (Nat.le_succ _) fun c hc o eo => ?_) ha' F' (fun x => ?_) fun s2 D2 l2 mv2 ha2 F2 mem2 => ?_⟩
      · rw [sb.2 c (fun z => hfp (by rw [← z]; exact hc))]; exact eo
      · rw [mem', mem]
        have hlt : i < xs.length := by omega
        rw [List.take_add_one, List.mem_append, List.getElem?_eq_getElem hlt]
        have eg : xs.getD i Str.empty = xs[i] := by simp [List.getD, List.getElem?_eq_getElem hlt]
        rw [eg]
        simp
      · refine q s2 D2 l2 (Moved.trans W.gtrans ((mv.mono up).then_heap (Nat.le_succ _) fun c o hc eo => ?_) mv2) ha2 F2 mem2
        rw [sb.2 c (fun z => hc (by rw [z]; exact List.mem_cons_self))]; exact eo)
end
section
variable {pr : Program} {wd : World} {A : Around} {E : Value → Shared → Prop} {s : Shared}
/-- the new set -/
def set0 (wd : World) : Obj := { cls := .type "set", dict := none, data := .set #[] 0 (.fresh 0 0 (!wd.params.followText "set-order")) }
theorem tab0 : Tab pr wd (#[], 0, .fresh 0 0 (!wd.params.followText "set-order")) [] := Tab.nil (by
  cases wd.params.followText "set-order" with
  | true => exact .inl rfl
  | false => exact .inr rfl)
theorem no_set {v : Value} {T : String} {R : Bool → Shared → Prop} (t : s.TypeIs v T) (h1 : isSubtype (.type T) (.type "set") = pure false) (h2 : isSubtype (.type T) (.type "frozenset") = pure false) (q : R false s) : wpAny (model pr wd) A (Builtin.Frozenset.isAnySet v) R E s := by
  unfold Builtin.Frozenset.isAnySet orM
  refine wpAny_bind (wpAny_isInstance t h1 ?_)
  show wpAny _ _ (isInstance v (.type "frozenset")) _ _ s
  exact wpAny_isInstance t h2 q
/-- the new set gets v's items -/
theorem from_texts {s1 : Shared} {v : Value} {n : Nat} {P : Nat → Value → Prop} {R : Unit → Shared → Prop} (hh : A.handled = none) (B : Itb pr wd s v n P) (xs M : List Str) (hn : xs.length = n) (hM : ∀ x ∈ xs, x ∈ M) (hb : M.length + 1 < scanBound) (val : ∀ i v, P i v → ∃ t, v = .str (xs.getD i Str.empty) t)
    (e1 : s1.heap = s.heap.push (set0 wd)) (q : ∀ hp tk D l, hp.get? s.heap.objs.size = some (sObj "set" D) → Tab pr wd D l → (∀ x, x ∈ l ↔ x ∈ xs) → (∀ b o, s.heap.get? b = some o → hp.get? b = some o) → R () { s1 with heap := hp, toks := tk }) :
    wpAny (model pr wd) A (Builtin.Frozenset.updateFrom "set.__init__" s.heap.objs.size v) R E s1 := by
  obtain ⟨T, h1, h2, h3, ty⟩ := B.ty
  have keep : ∀ b o, s.heap.get? b = some o → s1.heap.get? b = some o := fun b o e => by rw [e1]; exact Heap.get?_push_of_some _ e
  have z1 : s1.heap.objs.size = s.heap.objs.size + 1 := by rw [e1]; exact Heap.size_push ..
  have hd : (Value.type T == Value.type "dict") = false := by
    rw [beq_eq_false_iff_ne]
    intro e; cases e; exact h3 rfl
  unfold Builtin.Frozenset.updateFrom
  refine wpAny_bind (no_set (ty s1 keep) h1 h2 ?_)
  simp only [Bool.false_eq_true, if_false]
  refine wpAny_bind (wpAny_typeOf (ty s1 keep) ?_)
  simp only [hd, Bool.false_eq_true, if_false]
  refine wpAny_bind (B.it _ _ s1 _ keep fun o fp St W hfp st => ?_)
  refine wpAny_bind (wpAny_runValue ?_)
  have at0 : (s1.heap.push o).get? s.heap.objs.size = some (sObj "set" (#[], 0, .fresh 0 0 (!wd.params.followText "set-order"))) := Heap.get?_push_of_some _ (by rw [e1]; exact Heap.get?_push_size _ rfl)
  refine upd_loop (W _ (by simp [hh])).toS s.heap.objs.size (fun h => ?_) xs M hn hM hb val n 0 _ _ [] rfl (Nat.zero_le _) st at0 tab0 (fun x => by simp) fun s' D' l' mv ha' F' mem' => ?_
  · rcases (hfp _ h : s.heap.objs.size = s1.heap.objs.size ∨ s.heap.objs.size < s.heap.objs.size) with z | z
    · rw [z1] at z; exact absurd z (Nat.ne_of_lt (Nat.lt_succ_self _))
    · exact absurd z (Nat.lt_irrefl _)
  · obtain ⟨h', g', d', tk', os'⟩ := s'
    have eg : g' = s1.gens := mv.gens
    have ed : d' = s1.drawn := mv.drawn
    have eo : os' = s1.os := mv.os
    subst eg ed eo
    refine wpAny_pure (q h' tk' D' l' ha' F' mem' fun b o' e => ?_)
    have hlt := Heap.lt_size e
    exact mv.heap b o' (by simp only [List.mem_cons, List.mem_singleton, List.not_mem_nil, or_false, not_or]; exact ⟨Nat.ne_of_lt hlt, Nat.ne_of_lt (by rw [z1]; exact Nat.lt_succ_of_lt hlt)⟩) (Heap.get?_push_of_some _ (keep b o' e))
/-- set(v), v's items texts -/
theorem call_set_texts {v : Value} {n : Nat} {P : Nat → Value → Prop} {Q : Value → Shared → Prop} (hh : A.handled = none) (B : Itb pr wd s v n P) (xs M : List Str) (hn : xs.length = n) (hM : ∀ x ∈ xs, x ∈ M) (hb : M.length + 1 < scanBound) (val : ∀ i v, P i v → ∃ t, v = .str (xs.getD i Str.empty) t)
    (q : ∀ hp tk D l, hp.get? s.heap.objs.size = some (sObj "set" D) → Tab pr wd D l → (∀ x, x ∈ l ↔ x ∈ xs) → (∀ b o, s.heap.get? b = some o → hp.get? b = some o) → Q (.ref s.heap.objs.size) { s with heap := hp, toks := tk }) :
    wpAny (model pr wd) A (call (.type "set") [v]) Q E s := by
  obtain ⟨c0, tl0, mro0⟩ := PySem.F.called_set.mro
  have f1 := PySem.F.called_set.made; have f2 := PySem.F.called_set.sub
  refine wpAny_call (codeAny_of_tree (wpAny_pure ⟨Code.quiet_builtin _ (by decide +kernel), codeAny_builtin PySem.F.entry_type_call (by
    rw [Around.under_plain (weight_type_call_type "set" [v] []) rfl]
    have f3 := PySem.F.called_set.notType; have f4 := PySem.F.called_set.canCreate; have f5 := PySem.F.typeCall_set_1 v
    repeat (any_goals (first | assumption | wp_step))
    refine codeAny_mono (code_set_led1 v (E := E) (Q₁ := fun x z => x = .ref s.heap.objs.size ∧ z = { s with heap := s.heap.push (set0 wd) }) ⟨rfl, rfl⟩) fun r z hr => ?_
    match r, hr with
    | .error e, hr => exact hr
    | .ok .next, hr => exact hr.elim
    | .ok .brk, hr => exact hr.elim
    | .ok .cont, hr => exact hr.elim
    | .ok (.ret x), hr =>
      obtain ⟨rfl, rfl⟩ := hr
      have new : (s.heap.push (set0 wd)).get? s.heap.objs.size = some (set0 wd) := Heap.get?_push_size _ rfl
      have tset : Shared.TypeIs { s with heap := s.heap.push (set0 wd) } (.ref s.heap.objs.size) "set" := ⟨_, new, rfl⟩
      have f6 := PySem.F.called_set.init.lookup; have f7 := PySem.F.called_set.init.bind (.ref s.heap.objs.size)
      repeat (any_goals (first | assumption | wp_step))
      refine codeAny_mono (codeAny_call_builtin (R := wants (fun x z => x = .none ∧ ∃ hp tk D l, z = { s with heap := hp, toks := tk } ∧ hp.get? s.heap.objs.size = some (sObj "set" D) ∧ Tab pr wd D l ∧ (∀ x, x ∈ l ↔ x ∈ xs) ∧
        ∀ b o, s.heap.get? b = some o → hp.get? b = some o) E) PySem.F.called_set.init.plain PySem.F.entry_set_init (check_set_init_1 tset ?_)) fun r z hr => ?_
      · unfold Builtin.«set.__init__» noKeywords
        generalize hUF : Builtin.Frozenset.updateFrom = UF
        wp_walk
        subst hUF
        refine from_texts (s := s) (by simp [hh]) B xs M hn hM hb val rfl fun hp tk D l w1 w2 w3 w5 => ?_
        exact wpAny_pure ⟨rfl, hp, tk, D, l, rfl, w1, w2, w3, w5⟩
      · match r, hr with
        | .error e, hr => exact hr
        | .ok .next, hr => exact hr.elim
        | .ok .brk, hr => exact hr.elim
        | .ok .cont, hr => exact hr.elim
        | .ok (.ret y), hr =>
          obtain ⟨rfl, hp, tk, D, l, rfl, w1, w2, w3, w5⟩ := hr
          repeat (any_goals (first | assumption | wp_step))
          exact q hp tk D l w1 w2 w3 w5)⟩))
/-- sorted of a set of texts -/
theorem sorted_texts {a : Addr} {D : SD} {l : List Str} {Q : Value → Shared → Prop} (at_ : s.heap.get? a = some (sObj "set" D)) (F : Tab pr wd D l) (hh : A.handled = none) (few : l.length < 64)
    (q : ∀ s' p (out : Array Value) (c : Nat) (ys : List Str), (∀ b o, s.heap.get? b = some o → s'.heap.get? b = some o) → s'.gens = s.gens → s'.os = s.os → s.heap.objs.size ≤ p →
      s'.heap.get? p = some (seqObj "list" out c) → StrsAre out.toList ys → sortedS ys = true → ys.Perm l → Q (.ref p) s') : wpAny (model pr wd) A (call (.builtin "sorted") [.ref a]) Q E s := by
  obtain ⟨cells, ep, tb⟩ := D
  have sz : cells.size = l.length := F.ok.sz
  have big : cells.size < scanBound := by rw [sz]; exact Nat.lt_of_lt_of_le few (by decide)
  refine Calls.call_function_entry kind_sorted plain_sorted entry_sorted (args_sorted1 _) (by
    unfold Builtin.«sorted»
    refine wpAny_bind (m := checkCount "sorted" 1 1 _) (wpAny_pure (wpAny_bind (collect_set (A := A.in1) hh ⟨_, at_, rfl, rfl⟩ F.ok.fit big F.ris F.led fun s1 vs k1 z1 g1 o1 pm => ?_)))
    have vl : vs.length = l.length := by rw [pm.length_eq, List.length_map, Array.length_toList]; exact sz
    have text : ∀ v ∈ vs, ∃ x t, v = Value.str x t := fun v hv => by
      obtain ⟨e, he, e2⟩ := List.mem_map.mp (pm.mem_iff.mp hv)
      obtain ⟨⟨x, h1, _⟩, _⟩ := F.ok.el e he
      rw [e2] at h1
      have h1 : Value.isStrOf x v = true := h1
      cases v <;> first
        | exact ⟨_, _, rfl⟩
        | (simp [Value.isStrOf] at h1; done)
    have are := strs_tx vs text
    have pl : (vs.map tx).Perm l := (perm_of l (vs.map tx) F.nd (fun x hx => by
      obtain ⟨e, he, h1⟩ := (F.ok.mem x).mp hx
      have hv : e.2 ∈ vs := pm.mem_iff.mpr (List.mem_map.mpr ⟨e, he, rfl⟩)
      obtain ⟨y, t, e2⟩ := text e.2 hv
      have h1 : Value.isStrOf x e.2 = true := h1
      rw [e2] at h1
      have e3 : y = x := by simpa [Value.isStrOf] using h1
      refine List.mem_map.mpr ⟨e.2, hv, ?_⟩
      rw [e2, ← e3]; rfl) (by rw [List.length_map, vl])).symm
    refine wpAny_bind (wpAny_newList ?_ (by rw [vl, sizeLine_eq]; omega))
    have laid : (s1.heap.push (seqObj "list" vs.toArray 0)).get? s1.heap.objs.size = some (seqObj "list" vs.toArray 0) := Heap.get?_push_size _ rfl
    refine wpAny_bind (wpAny_holding (wpAny_call_entry slot_list_sort ⟨_, laid, rfl⟩ entry_list_sort (list_sort_treeK strKind_oneLt laid are.keysOf (fun v₁ v₂ rest e => keyKind_strs (by rw [← e]; exact are)) (by rw [vl]; exact few) fun st hp hs => ⟨_, rfl, ?_⟩) (args_list_sort _)))
    obtain ⟨ys, y1, y2, y3⟩ := sorted_out_str are hp hs
    obtain ⟨c, hc⟩ := sortedHeap_at (vs := vs) (out := (arrOf st).map (·.2)) laid
    refine wpAny_pure ⟨_, rfl, q _ s1.heap.objs.size _ c ys (fun b o e => ?_) g1 o1 z1 hc y1 y3 (y2.trans pl)⟩
    have lt := Heap.lt_size (k1 b o e)
    show (sortedHeap (s1.heap.push (seqObj "list" vs.toArray 0)) s1.heap.objs.size vs ((arrOf st).map (·.2))).get? b = some o
    rw [sortedHeap_old (Nat.ne_of_lt lt) (by rw [Heap.size_push]; exact Nat.lt_succ_of_lt lt)]
    exact Heap.get?_push_of_some _ (k1 b o e))
end
section
variable {X : Cx} {pins : List (Addr × Obj)} {σ : L2.St} {H : Hp} {s : Shared}
theorem itb_str {pr : Program} {wd : World} {s : Shared} {z : Str} {t : Tok} : Itb pr wd s (.str z t) z.cps.size (SignAt z) where
  ty := ⟨"str", PySem.F.sub_str_set, PySem.F.sub_str_frozenset, by decide, fun s1 _ => typeIs_str _ _ _⟩
  it := fun A E s1 R k q => wpAny_pyIter_str fun o St W st => q o _ St W (fun b hb => .inl (List.mem_singleton.mp hb)) st
theorem itb_seq {pr : Program} {wd : World} {s : Shared} {a : Addr} {us : Array Value} (hl : s.heap.IsList a us) : Itb pr wd s (.ref a) us.size (fun i v => us[i]? = some v) where
  ty := ⟨"list", PySem.F.sub_list_set, PySem.F.sub_list_frozenset, by decide, fun s1 k => (hl.at fun o e => k a o e).typeIs⟩
  it := fun A E s1 R k q => by
    have hl1 : s1.heap.IsList a us := hl.at fun o e => k a o e
    obtain ⟨o1, h1, _⟩ := id hl
    have lt : a < s.heap.objs.size := Heap.lt_size h1
    obtain ⟨o2, h2, _⟩ := id hl1
    have lt1 : a < s1.heap.objs.size := Heap.lt_size h2
    refine wpAny_pyIter_list hl1 (q _ [s1.heap.objs.size, a] _ (fun A' hA => Walks.list hA _ a (Nat.ne_of_lt lt1) us) (fun b hb => ?_) ⟨⟨_, Heap.get?_push_size _ rfl, rfl, rfl⟩, hl1.push _⟩)
    rcases List.mem_cons.mp hb with e | e
    · exact .inl e
    · exact .inr (by rw [List.mem_singleton.mp e]; exact lt)
/-- a set of texts at a -/
def TabO (pr : Program) (wd : World) (a : Addr) (xs : List Str) : HO := .ext fun h => ∃ D l, h.get? a = some (sObj "set" D) ∧ Tab pr wd D l ∧ ∀ x, x ∈ l ↔ x ∈ xs
theorem tabO_new {pr : Program} {wd : World} {H : Hp} {h : Heap} {a : Addr} {xs : List Str} (R : ∃ D l, h.get? a = some (sObj "set" D) ∧ Tab pr wd D l ∧ ∀ x, x ∈ l ↔ x ∈ xs) : ObjOk pr wd H h a (TabO pr wd a xs) := by
  have ⟨D, l, e, _⟩ := R
  exact ⟨R, ⟨_, e⟩, fun h1 h2 ⟨D, l, e, r⟩ k => ⟨D, l, k _ e, r⟩⟩
theorem tabO_get {a : Addr} {xs : List Str} (I : Inv X pins σ H s) (ha : H a = some (TabO X.prog X.w a xs)) : ∃ D l, s.heap.get? a = some (sObj "set" D) ∧ Tab X.prog X.w D l ∧ ∀ x, x ∈ l ↔ x ∈ xs := (I.hok a _ ha).1
/-- the texts that a value walks -/
def TxOf (K : PySem.W.Frag) (H : Hp) (x : V) (xs : List Str) : Prop := (∃ z, x = .str z ∧ xs = z.cps.toList.map fun c => ⟨#[c]⟩) ∨ ∃ a, x = .ref a ∧ SqL K H a (xs.map V.str)
theorem strs_get : ∀ {xs : List Str} {us : List Value}, Vals (xs.map V.str) us → ∀ i v, us[i]? = some v → ∃ t, v = Value.str (xs.getD i Str.empty) t
  | [], _, h, i, v, e => by cases h; simp at e
  | x :: r, _, h, i, v, e => by
    cases h with
    | cons h1 h2 =>
      obtain ⟨t, rfl⟩ := h1
      cases i with
      | zero => simp at e; exact ⟨t, e.symm⟩
      | succ i => exact strs_get h2 i v (by simpa using e)
theorem cr_setT (hc : X.calm = true) : CallR X (.type "set") (fun vs H Q => ∃ (x : V) (xs M : List Str), vs = [x] ∧ TxOf X.K H x xs ∧ (∀ y ∈ xs, y ∈ M) ∧ M.length < 64 ∧ ∀ p, H p = none → Q (.ref p) (upd H p (TabO X.prog X.w p xs))) := by
  intro pins s σ H vs us Q I r h
  obtain ⟨x, xs, M, rfl, ht, hM, few, q⟩ := h
  have big : M.length + 1 < scanBound := Nat.lt_of_lt_of_le (Nat.succ_lt_succ few) (by decide)
  cases r with
  | cons r1 r2 =>
    cases r2
    have fin : ∀ hp tk D l, hp.get? s.heap.objs.size = some (sObj "set" D) → Tab X.prog X.w D l → (∀ x, x ∈ l ↔ x ∈ xs) → (∀ b o, s.heap.get? b = some o → hp.get? b = some o) → EP X pins σ Q (.ref s.heap.objs.size) { s with heap := hp, toks := tk } := fun hp tk D l h1 h2 h3 h4 =>
      ⟨.ref _, upd H s.heap.objs.size (TabO X.prog X.w s.heap.objs.size xs), I.laid (t' := tk) h4 (Nat.le_refl _) (tabO_new ⟨D, l, h1, h2, h3⟩), rfl, q _ (I.hok.fresh (Nat.le_refl _))⟩
    rcases ht with ⟨z, rfl, ex⟩ | ⟨a, rfl, hs⟩
    · obtain ⟨t, rfl⟩ := r1
      refine call_set_texts (I.ok.hd hc) itb_str xs M (by rw [ex, List.length_map, Array.length_toList]) hM big (fun i v hv => ?_) fin
      obtain ⟨c, u, e1, e2⟩ := hv
      refine ⟨u, ?_⟩
      rw [e2, ex]
      rw [← Array.getElem?_toList] at e1
      simp [List.getD, List.getElem?_map, e1]
    · cases r1
      obtain ⟨its, rv, pl, _⟩ := I.list hs
      exact call_set_texts (I.ok.hd hc) (itb_seq pl.isList) xs M (by rw [List.size_toArray, ← rv.length, List.length_map]) hM big (fun i v hv => strs_get rv i v (by simpa using hv)) fin
theorem cr_sortT (hc : X.calm = true) : CallR X (.builtin "sorted") (fun vs H Q => ∃ (a : Addr) (xs M : List Str), vs = [.ref a] ∧ H a = some (TabO X.prog X.w a xs) ∧ (∀ y ∈ xs, y ∈ M) ∧ M.length < 64 ∧
    ∀ (ys : List Str) p, sortedS ys = true → ys.Nodup → (∀ x, x ∈ ys ↔ x ∈ xs) → H p = none → Q (.ref p) (upd H p (.lst (ys.map V.str)))) := by
  intro pins s σ H vs us Q I r h
  obtain ⟨a, xs, M, rfl, ha, hM, few, q⟩ := h
  rw [Vals.ref1 r]
  obtain ⟨D, l, at_, F, mem⟩ := tabO_get I ha
  have hlen : l.length < 64 := Nat.lt_of_le_of_lt (sub_len l M F.nd fun x hx => hM x ((mem x).mp hx)) few
  refine sorted_texts at_ F (I.ok.hd hc) hlen fun s' p out c ys k g o hp ho are st pm => ?_
  have hn : H p = none := I.hok.fresh hp
  have hz : (ys.map V.str).length ≤ sizeLine := by rw [List.length_map, pm.length_eq, sizeLine_eq]; omega
  have J : Inv X pins σ (upd H p (.lst (ys.map V.str))) { s with heap := s'.heap, gens := s'.gens, drawn := s'.drawn, toks := s'.toks } :=
    I.call (ch := []) (Un.laid k hp hn) (I.hok.laid k hp ⟨hz, out.toList, c, vals_of_strs are, by rw [Array.toArray_toList]; exact ho⟩) (by rw [g]; exact I.bare) (fun _ z => nomatch z)
  have e : s' = { s with heap := s'.heap, gens := s'.gens, drawn := s'.drawn, toks := s'.toks } := by
    obtain ⟨h1, h2, h3, h4, h5⟩ := s'
    have o : h5 = s.os := o
    subst o; rfl
  rw [e]
  exact ⟨.ref p, _, J, rfl, q ys p st (pm.nodup_iff.mpr F.nd) (fun x => pm.mem_iff.trans (mem x)) hn⟩
end
end Dw
set_option Elab.async false
set_option linter.all false
set_option maxRecDepth 100000
set_option maxHeartbeats 4000000
namespace Dw
open PySem PySem.Spec PyProof.Rows L2
section
variable {P : Pg} {N : List Str} {Φ : PhT} {X : Cx} {sc : Scope} {ca fa : Nat → Addr} {lv : Nat} {G H : Hp} {σ : L2.St} {cs : CS} {env : Env} {W : WT} {Q : QT}
theorem vis_of {sc : Scope} {x : Str} (h : vis sc x = true) : Vis sc x := by
  unfold vis at h
  unfold Vis
  split at h <;> first | (simp_all; done) | cases h
theorem glob_of {sc : Scope} {x : Str} (h : glob sc x = true) : sc.names.lookup x = some .globalImplicit := by
  unfold glob at h
  split at h <;> first | assumption | cases h
theorem nsp_of {x : Str} (h : nsp x = true) : (x == ("__debug__" : Str)) = false ∧ (x == ("__classdict__" : Str)) = false := by
  unfold nsp at h
  simp only [Bool.and_eq_true, Bool.not_eq_true'] at h
  exact h
theorem gname_fn {x : Str} {i : Nat} (h : gname P sc x (.fn i) = true) : sc.names.lookup x = some .globalImplicit ∧ (x == ("__debug__" : Str)) = false ∧ P.glo.lookup x = some (.fn i) := by
  unfold gname at h
  simp only [Bool.and_eq_true] at h
  obtain ⟨h1, h2, h3⟩ := h
  refine ⟨glob_of h1, (nsp_of h2).1, ?_⟩
  split at h3
  · rename_i e1 e2
    have := of_decide_eq_true h3
    cases e2
    rw [e1, this]
  · rename_i e1 e2; cases e2
  · cases h3
theorem gname_cl {x : Str} {i : Nat} (h : gname P sc x (.cls i) = true) : sc.names.lookup x = some .globalImplicit ∧ (x == ("__debug__" : Str)) = false ∧ P.glo.lookup x = some (.cls i) := by
  unfold gname at h
  simp only [Bool.and_eq_true] at h
  obtain ⟨h1, h2, h3⟩ := h
  refine ⟨glob_of h1, (nsp_of h2).1, ?_⟩
  split at h3
  · rename_i e1 e2; cases e2
  · rename_i e1 e2
    have := of_decide_eq_true h3
    cases e2
    rw [e1, this]
  · cases h3
theorem bname_of {x : Str} (h : bname P sc x = true) : sc.names.lookup x = some .globalImplicit ∧ (x == ("__debug__" : Str)) = false ∧ P.free.contains x = true ∧ x ≠ "__name__" := by
  unfold bname at h
  simp only [Bool.and_eq_true, Bool.not_eq_true'] at h
  obtain ⟨h1, h2, h3, h4⟩ := h
  exact ⟨glob_of h1, (nsp_of h2).1, h3, fun e => by rw [e] at h4; simp at h4⟩
theorem Gd.gl (g : Gd P N Φ ca fa lv X sc) {x : Str} (h : sc.names.lookup x = some .globalImplicit) : Gl X x := by
  show X.env.scope.names.lookup x = _
  rw [g.hsc]; exact h
/-- a name's value -/
theorem we_name {i : Nat} {x : Str} {p : Pos} {d : D} (g : Gd P N Φ ca fa lv X sc) (hN : N[i]? = some x) (hv : vis sc x = true) (hn : nsp x = true) (er : EnvR X.K ca G env σ) (e : env[i]? = some (some d)) {R : VK} (q : ∀ v, σ[i]? = some (some v) → Rep X.K ca G d v → R v H) : WE X (.Name x p) σ H R := by
  obtain ⟨v, h1, h2⟩ := er.2 i d e
  obtain ⟨n1, n2⟩ := nsp_of hn
  exact (pe_var (X := X) (i := i) (x := x) (pos := p) (by rw [g.hN]; exact hN) (by rw [g.hsc]; exact vis_of hv) n1 n2).we ⟨v, h1, q v h1 h2⟩
theorem we_bin {a b : Expr} {op : Operator} {p : Pos} {R : VK} (h : WE X a σ H fun x H1 => WE X b σ H1 fun y H2 => OW X (binaryOp op) x y σ H2 R) : WE X (.BinOp a op b p) σ H R := fun pins s I =>
  wpAny_BinOp (binT (pWE a) (pWE b) I h fun v u s2 x y H2 I2 rx ry q => q pins s2 v u I2 rx ry)
theorem we_cmp {a b : Expr} {op : CmpOp} {p : Pos} {R : VK} (hm : notSet b = true) (h : WE X a σ H fun x H1 => WE X b σ H1 fun y H2 => OW X (compareOp op) x y σ H2 R) : WE X (.Compare a [op] [b] p) σ H R := fun pins s I =>
  wpAny_Compare1 (binT (pWE a) (pWE b) I h fun v u s2 x y H2 I2 rx ry q => q pins s2 v u I2 rx ry) (noBehind hm)
theorem wt_cmp {a b : Expr} {op : CmpOp} {p : Pos} {R : Bool → Hp → Prop} (hm : notSet b = true) (h : WE X a σ H fun x H1 => WE X b σ H1 fun y H2 => OW X (compareOp op) x y σ H2 (CQ R)) : WT' X (.Compare a [op] [b] p) σ H R := fun pins s I => by
  refine wpAny_isTrue_Compare1 (thn (h pins s I) fun v s1 ⟨x, H1, I1, r1, q1⟩ => thn (q1 pins s1 I1) fun u s2 ⟨y, H2, I2, r2, q2⟩ =>
    thn (q2 pins s2 v u I2 r1 r2) fun c s3 ⟨z, H3, I3, r3, k, e, q3⟩ => ?_) (noBehind hm)
  subst e
  cases r3
  exact wpAny_truthy_bool ⟨H3, I3, q3⟩
theorem we_ix {a b : Expr} {p : Pos} {R : VK} (h : WE X a σ H fun x H1 => WE X b σ H1 fun y H2 => ∀ (pins : List (Addr × Obj)) (s : Shared) (v u : Value), Inv X pins σ H2 s → RelV x v → RelV y u → wpAny (model X.prog X.w) X.A (subscriptTail a b v u) (EP X pins σ R) X.xe s) : WE X (.Subscript a b p) σ H R := fun pins s I =>
  Subscript_ (binT (pWE a) (pWE b) I h fun v u s2 x y H2 I2 rx ry q => q pins s2 v u I2 rx ry)
/-- arguments, then keywords -/
theorem call_args {f : Value} {first : List Value} {es : List Expr} {kws : List Keyword} {pos : Pos} {pins : List (Addr × Obj)} {s : Shared} {R : Value → Shared → Prop} (hk : PySem.W.keepIn X.K f = true) (hs : es.all notStar = true) (hkw : kws.all (fun k => k.arg.isSome) = true) (I : Inv X pins σ H s)
    (h : WAn X es σ H fun vs H1 => WK X kws σ H1 fun zs H2 => ∀ (s : Shared) (us ws : List Value), Inv X pins σ H2 s → Vals vs us → Vals zs ws → wpAny (model X.prog X.w) X.A (call f (first ++ us) ((kwNames kws).zip ws)) R X.xe s) :
    wpAny (model X.prog X.w) X.A (callWith pos f first (backTo pos (starEach es X.env)) (backToKw pos (keywordEach kws X.env))) R X.xe s := by
  have k1 : ∀ kws : List Keyword, kws.all (fun k => k.arg.isSome) = true → (backToKw pos (keywordEach kws X.env)).all (·.1.isSome) = true ∧ (backToKw pos (keywordEach kws X.env)).any (·.1.isNone) = false ∧ (backToKw pos (keywordEach kws X.env)).filterMap (·.1) = kwNames kws := by
    intro kws
    induction kws with
    | nil => intro _; exact ⟨rfl, rfl, rfl⟩
    | cons k r ih =>
      intro h
      obtain ⟨nm, e, kp⟩ := k
      simp only [List.all_cons, Bool.and_eq_true] at h
      obtain ⟨i1, i2, i3⟩ := ih h.2
      cases nm with
      | none => cases h.1
      | some y =>
        refine ⟨?_, ?_, ?_⟩
        · show (true && (backToKw pos (keywordEach r X.env)).all (·.1.isSome)) = true
          rw [i1]; rfl
        · show (false || (backToKw pos (keywordEach r X.env)).any (·.1.isNone)) = false
          rw [i2]; rfl
        · show y :: (backToKw pos (keywordEach r X.env)).filterMap (·.1) = y :: kwNames r
          rw [i3]
  obtain ⟨a1, a2, a3⟩ := k1 kws hkw
  cases es with
  | nil =>
    refine PySem.W.callWith_KW0 (h₀ := X.base) I.ok.mod.kin hk a1 ?_ (by show (false || _) = false; rw [a2]; rfl)
    have q1 := h.1 rfl
    have I1 := I
    refine thn (q1 pos pins s I1) fun ws s2 ⟨zs, H2, I2, rz, q2⟩ => ⟨I2.kIn, ?_⟩
    rw [a3]
    exact q2 s2 [] ws I2 .nil rz
  | cons e es =>
    simp only [List.all_cons, Bool.and_eq_true] at hs
    refine PySem.W.callWith_KW (h₀ := X.base) I.ok.mod.kin hk a1 (thn (h.2 pos pins s I) fun us s1 ⟨vs, H1, I1, r1, q1⟩ => ?_) ?_ (starEach_cons hs.1)
    · refine thn (q1 pos pins s1 I1) fun ws s2 ⟨zs, H2, I2, rz, q2⟩ => ⟨I2.kIn, ?_⟩
      rw [a3]
      exact q2 s2 us ws I2 r1 rz
    · rw [a2, starEach_any (by simp only [List.all_cons, Bool.and_eq_true]; exact hs)]; rfl
/-- a def of ours is called -/
theorem run_phi {i : Nat} {us : List Value} {vs : List V} {ds : List D} {pins : List (Addr × Obj)} {s : Shared} (g : Gd P N Φ ca fa lv X sc) (M : Mono Φ) (I : Inv X pins σ H s) (rv : Vals vs us) (ok : Ok X.K ca G H cs) (er : EnvR X.K ca G env σ)
    (rl : RepL X.K ca G ds vs) (hW : WOk X ca G W) (h : phi P Φ i ds cs (fun d fr cs' => Q d fr env cs') (fun x cs' => W x env cs')) :
    wpAny (model X.prog X.w) X.A (call (.ref (fa i)) us) (EP X pins σ (PQ X ca G σ Q)) X.xe s := by
  obtain ⟨ha, h⟩ := h
  unfold Pg.ar at ha
  cases hf : P.fns[i]? with
  | none => rw [hf] at ha; cases ha
  | some fi =>
    rw [hf] at ha
    exact run_pos g M hf I rv ok er rl (Option.some.inj ha).symm hW h
theorem kwB_of {f n : Nat} {kn : List Str} {perm : List Nat} (h : P.kwB f n kn perm = true) : ∃ fi, P.fns[f]? = some fi ∧ (n, kn, perm) ∈ fi.kw := by
  unfold Pg.kwB at h
  split at h
  · rename_i fi e
    exact ⟨fi, e, of_decide_eq_true h⟩
  · cases h
theorem RepL.len2 {K : PySem.W.Frag} {ds : List D} {vs : List V} {us : List Value} (r : RepL K ca G ds vs) (rv : Vals vs us) : us.length = ds.length := by rw [r.length, rv.length]
theorem under_guards {A : Around} {C : Addr} {us : List Value} {kw : List (Str × Value)} (h : A.guards = some []) : (A.under (.builtin "type.__call__" ⟨.ref C :: us, kw⟩)).guards = some [] := by
  simp [Around.under, pushGuards_eq, h, Code.guards, Code.isGuard, guardIds]
/-- o.f, a property -/
theorem prop_g {C p ga a dx : Addr} {fs : List (Str × V)} {nm : Str} {fd : FuncData} {ps : List Str} {sp : Sp} {E : XK} {pins : List (Addr × Obj)} {s : Shared} {R : VK} {b : Bool} {k : Nat} {X : Cx} {σ : L2.St} {H : Hp} (hgu : X.A.guards = some []) (I : Inv X pins σ H s) (ea : H a = some (.ins C dx fs)) (c : Cls X.K C)
    (hp : PropOf X.K C nm p ga) (F : FnG X.prog X.w X.K X.mg X.base (CX X.prog X.w) k ga fd ps sp) (hr : Room (k + 1) X.A) (hb : ∀ (s : Shared) (us : List Value), X.K.In s.heap → us.length = ps.length → BindsTo s fd ⟨us, []⟩ (ps.zip us)) (hE : ∀ c d H, ¬ E c d H) (h : sp [.ref a] H R E) :
    wpAny (model X.prog X.w) X.A (getAttr (.ref a) nm b) (EP X pins σ R) X.xe s := by
  obtain ⟨m, O, _⟩ := ins_get I.hok ea
  obtain ⟨od, J, _⟩ := O.look
  obtain ⟨rest, hrec⟩ := hp.rec_
  have J1 := I.tok (s.toks + 1)
  have hcl : (PySem.W.clsIn X.K C).isSome = true := by
    obtain ⟨cd, q, _⟩ := PySem.W.any_some c.hd
    rw [q]; rfl
  have pg := PySem.W.plainGet_of (c.get nm)
  apply PySem.W.get_bind I.kIn J pg.1 (PySem.W.findObj_data hcl hp.at_ hp.get hp.tak) pg.2
  apply wpAny_call
  apply PySem.W.prop_get (s := { s with toks := s.toks + 1 }) I.kIn hrec
  have hl : [Value.ref a].length = ps.length := F.len _ _ _ _ h
  refine codeAny_mono (F.run X.A.in1 (show X.A.in1.guards = some [] from hgu) X.stack { s with toks := s.toks + 1 } H ⟨[.ref a], []⟩ [.ref a] [.ref a] R E hr.in1 J1.env0.in1 (hb _ _ J1.kIn hl) (.cons rfl .nil) h) ?_
  intro r s' hq
  match r, hq with
  | .error er, hq => exact False.elim (takes_none (X := X.nox) er s' (XE.of_call (J1.wish _) (fun c d H' z => (hE c d H' z).elim) hq))
  | .ok (.ret u), hq =>
    obtain ⟨v, H', I3, rv, q3⟩ := J1.after hq
    show wpAny _ _ (handedOut u) _ _ _
    rw [PySem.W.handedOut_of (handed_of rv)]
    exact wpAny_pure ⟨v, H', I3, rv, q3⟩
  | .ok .next, hq => exact False.elim hq
  | .ok .brk, hq => exact False.elim hq
  | .ok .cont, hq => exact False.elim hq
/-- a new instance of a class of ours -/
theorem run_mk {c f : Nat} {us ws : List Value} {kn : List Str} {pins : List (Addr × Obj)} {s : Shared} {vs2 : Addr → List Value} (g : Gd P N Φ ca fa lv X sc) (M : Mono Φ) (hi : P.initOf c = some f) (I : Inv X pins σ H s) (ok : Ok X.K ca G H cs) (er : EnvR X.K ca G env σ) (hW : WOk X ca G W)
    {dd : Addr → List D} {vv : Addr → List V}
    (hb : ∀ fi fd, P.fns[f]? = some fi → (∀ (s : Shared) (us : List Value), X.K.In s.heap → us.length = fi.ps.length → BindsTo s fd ⟨us, []⟩ (fi.ps.zip us)) →
      (∀ n ks perm, (n, ks, perm) ∈ fi.kw → perm.length = fi.ps.length ∧ (∀ i ∈ perm, i < n + ks.length) ∧ ∀ (s : Shared) (us ws : List Value), X.K.In s.heap → us.length = n → ws.length = ks.length → BindsTo s fd ⟨us, ks.zip ws⟩ (fi.ps.zip (arr perm (us ++ ws)))) →
      ∀ a (s : Shared), X.K.In s.heap → BindsTo s fd ⟨.ref a :: us, kn.zip ws⟩ (fi.ps.zip (vs2 a)) ∧ (dd a).length = fi.ps.length)
    (rv : ∀ a, Vals (vv a) (vs2 a)) (rl : ∀ a, RepL X.K ca G (dd a) (vv a))
    (h : ∀ a, cs a = none → Φ f (dd a) (cset cs a (.ins c [])) (fun r _ cs' => r = .non ∧ match cs' a with
      | some (.ins c' fs) => c' = c ∧ Q (.ins c fs) false env (cdel cs' a)
      | _ => False) (fun x cs' => W x env (cdel cs' a))) :
    wpAny (model X.prog X.w) X.A (call (.ref (ca c)) us (kn.zip ws)) (EP X pins σ (PQ X ca G σ Q)) X.xe s := by
  obtain ⟨MK, fi, hf⟩ := g.fx.mkr c f hi
  obtain ⟨fd, F, hb1, hb2⟩ := (g.fx.fn f fi hf).ex
  obtain ⟨Wc, tk, hw⟩ := hW
  have I2 := Inv.made (C := ca c) I
  have n1 : H (s.heap.objs.size + 1) = none := I.hok.fresh (Nat.le_succ _)
  have n0 : H s.heap.objs.size = none := I.hok.fresh (Nat.le_refl _)
  have ne : s.heap.objs.size + 1 ≠ s.heap.objs.size := Nat.succ_ne_self _
  have q := h (s.heap.objs.size + 1) (ok.noC n1)
  obtain ⟨b1, b2⟩ := hb fi fd hf hb1 hb2 (s.heap.objs.size + 1) _ I2.kIn
  have ok0 : Ok X.K ca G (upd H s.heap.objs.size (.own (s.heap.objs.size + 1))) cs := ok.alloc n0
  have n1' : (upd H s.heap.objs.size (.own (s.heap.objs.size + 1))) (s.heap.objs.size + 1) = none := by rw [upd_ne ne]; exact n1
  have ok1 : Ok X.K ca G (upd (upd H s.heap.objs.size (.own (s.heap.objs.size + 1))) (s.heap.objs.size + 1) (.ins (ca c) s.heap.objs.size [])) (cset cs (s.heap.objs.size + 1) (.ins c [])) :=
    ok0.write (ok.noG n1) ⟨_, _, upd_same, .nil⟩
  have sp : spW X.K ca fi.ps.length (Φ f) (vv (s.heap.objs.size + 1)) (upd (upd H s.heap.objs.size (.own (s.heap.objs.size + 1))) (s.heap.objs.size + 1) (.ins (ca c) s.heap.objs.size [])) (fun v H2 => v = .non ∧ PQ X ca G σ Q (.ref (s.heap.objs.size + 1)) H2) (fun cv dx H' => Wc cv dx σ H') := by
    refine ⟨G, _, _, ok1, rl _, b2, M f _ _ (fun d fr c' q G' H' v s3 ok3 r3 => ?_) (fun x c' q G' H' cv dx s1 ok1 r1 => hw σ G' H' env _ x cv dx s1 (ok1.drop _) (er.mono s1) r1 q) q⟩
    obtain ⟨e1, q⟩ := q
    subst e1
    have e2 : v = .non := by
      unfold RepR at r3
      cases fr with
      | true => rw [if_pos rfl] at r3; obtain ⟨_, o, _, z, _⟩ := r3; cases o <;> cases z
      | false => rw [if_neg Bool.false_ne_true] at r3; cases r3; rfl
    refine ⟨e2, ?_⟩
    split at q
    · rename_i c2 fs e3
      obtain ⟨e4, q⟩ := q
      subst e4
      obtain ⟨h1, h2⟩ := ok3.cel _ _ e3
      obtain ⟨G2, s2, ok2, r2⟩ := (ok3.drop (s.heap.objs.size + 1)).freezeOb h1 cdel_same h2
      exact ⟨G2, env, _, _, false, s3.trans s2, ok2, er.mono (s3.trans s2), r2.r, q⟩
    · exact q.elim
  refine wpAny_call (make_map (f := fa f) I.kIn MK.makes MK.init (beq_iff_eq.mp MK.fn) (codeAny_mono (F.run _ (under_guards g.units) X.stack _ _ ⟨Value.ref (s.heap.objs.size + 1) :: us, kn.zip ws⟩ (vs2 (s.heap.objs.size + 1)) _ _ (fun cv dx H' => Wc cv dx σ H') (Room.make g.room (ca c) us (kn.zip ws))
    (I2.env0.make (ca c) us (kn.zip ws)) b1 (rv _) sp) fun r s' hq' => ?_))
  cases r with
  | error e => exact tk e s' (XE.of_call I2 (fun _ _ _ h => h) hq')
  | ok fl =>
    cases fl with
    | ret u =>
      obtain ⟨v, H', I3, rv, ev, q3⟩ := I2.after hq'
      subst ev
      exact ⟨rv, ⟨V.ref (s.heap.objs.size + 1), H', I3, rfl, q3⟩⟩
    | next => exact False.elim hq'
    | brk => exact False.elim hq'
    | cont => exact False.elim hq'
end
end Dw
set_option Elab.async false
set_option linter.all false
set_option maxRecDepth 100000
set_option maxHeartbeats 4000000
/-! Results in full; targets of names alone; calls of built-ins. -/
namespace Dw
open PySem PySem.Spec PyProof.Rows L2

/-- behind arguments -/
def PA' (X : Cx) (ca : Nat → Addr) (G : Hp) (σ : L2.St) (Q : QA) : List V → Hp → Prop := fun vs H' => ∃ G' env' cs' ds, Same G G' ∧ Ok X.K ca G' H' cs' ∧ EnvR X.K ca G' env' σ ∧ RepL X.K ca G' ds vs ∧ Q ds env' cs'
/-- behind a test -/
def PB (X : Cx) (ca : Nat → Addr) (G : Hp) (σ : L2.St) (Q : Bool → Env → CS → Prop) : Bool → Hp → Prop := fun b H' => ∃ G' env' cs', Same G G' ∧ Ok X.K ca G' H' cs' ∧ EnvR X.K ca G' env' σ ∧ Q b env' cs'
/-- behind a slice's part -/
def PO' (X : Cx) (ca : Nat → Addr) (G : Hp) (σ : L2.St) (Q : Option Int → Env → CS → Prop) : Option Int → Hp → Prop := fun o H' => ∃ G' env' cs', Same G G' ∧ Ok X.K ca G' H' cs' ∧ EnvR X.K ca G' env' σ ∧ Q o env' cs'
/-- behind a target -/
def PT' (X : Cx) (ca : Nat → Addr) (G : Hp) (k : KT) : L2.St → Hp → Prop := fun σ' H' => ∃ G' env' cs', Same G G' ∧ Ok X.K ca G' H' cs' ∧ EnvR X.K ca G' env' σ' ∧ k env' cs'
/-- behind what a for walks -/
def PI' (X : Cx) (ca : Nat → Addr) (G : Hp) (σ : L2.St) (Q : List D → Env → CS → Prop) : It → Hp → Prop := fun J H' => ∃ G' env' cs' its, Same G G' ∧ Ok X.K ca G' H' cs' ∧ EnvR X.K ca G' env' σ ∧ ItOk X.K ca G' J its ∧ Q its env' cs'
/-- behind a text's parts -/
def PF' (X : Cx) (ca : Nat → Addr) (G : Hp) (σ : L2.St) (Q : Str → Env → CS → Prop) : Str → Hp → Prop := fun b H' => ∃ G' env' cs', Same G G' ∧ Ok X.K ca G' H' cs' ∧ EnvR X.K ca G' env' σ ∧ Q b env' cs'
section
variable {X : Cx} {ca : Nat → Addr} {G G1 : Hp} {σ : L2.St}
theorem PA'.lift {Q : QA} {vs : List V} {H' : Hp} (s : Same G G1) (h : PA' X ca G1 σ Q vs H') : PA' X ca G σ Q vs H' := by
  obtain ⟨G', env', cs', ds, s2, r⟩ := h; exact ⟨G', env', cs', ds, s.trans s2, r⟩
theorem PB.lift {Q : Bool → Env → CS → Prop} {b : Bool} {H' : Hp} (s : Same G G1) (h : PB X ca G1 σ Q b H') : PB X ca G σ Q b H' := by
  obtain ⟨G', env', cs', s2, r⟩ := h; exact ⟨G', env', cs', s.trans s2, r⟩
theorem PF'.lift {Q : Str → Env → CS → Prop} {b : Str} {H' : Hp} (s : Same G G1) (h : PF' X ca G1 σ Q b H') : PF' X ca G σ Q b H' := by
  obtain ⟨G', env', cs', s2, r⟩ := h; exact ⟨G', env', cs', s.trans s2, r⟩
theorem PO'.lift {Q : Option Int → Env → CS → Prop} {b : Option Int} {H' : Hp} (s : Same G G1) (h : PO' X ca G1 σ Q b H') : PO' X ca G σ Q b H' := by
  obtain ⟨G', env', cs', s2, r⟩ := h; exact ⟨G', env', cs', s.trans s2, r⟩
theorem PT'.lift {k : KT} {σ' : L2.St} {H' : Hp} (s : Same G G1) (h : PT' X ca G1 k σ' H') : PT' X ca G k σ' H' := by
  obtain ⟨G', env', cs', s2, r⟩ := h; exact ⟨G', env', cs', s.trans s2, r⟩
theorem PI'.lift {Q : List D → Env → CS → Prop} {J : It} {H' : Hp} (s : Same G G1) (h : PI' X ca G1 σ Q J H') : PI' X ca G σ Q J H' := by
  obtain ⟨G', env', cs', its, s2, r⟩ := h; exact ⟨G', env', cs', its, s.trans s2, r⟩
end
theorem RHL_of {K : PySem.W.Frag} {ca : Nat → Addr} {G H : Hp} {cs : CS} (ok : Ok K ca G H cs) : ∀ {ds : List D} {vs : List V}, RepL K ca G ds vs → RHL K ca G H (ds.map (dv cs)) vs
  | _, _, .nil => True.intro
  | _, _, .cons h r => ⟨dv_rep ok h, RHL_of ok r⟩
theorem lst_ty {K : PySem.W.Frag} {ca : Nat → Addr} {G H : Hp} {d : D} {x : V} (r : RepH K ca G H d x) (h : lstD d = true) : tyV K "list" x H := by
  cases d with
  | lst xs => obtain ⟨a, vs, rfl, h1, _⟩ := r; exact .inl ⟨rfl, vs, SqL.of h1⟩
  | rol xs => obtain ⟨a, vs, rfl, h1, _⟩ := r; exact .inl ⟨rfl, vs, h1⟩
  | _ => cases h
theorem chA_len {P : Pg} {N : List Str} {sc : Scope} : ∀ {es : Exs} {l : List Expr}, chA P N sc es l = true → l.all notStar = true
  | .nil, [], _ => rfl
  | .nil, _ :: _, h => nomatch h
  | .cons _ _, [], h => nomatch h
  | .cons e es, a :: l, h => by
    simp only [chA, Bool.and_eq_true] at h
    simp only [List.all_cons, Bool.and_eq_true]
    exact ⟨h.1, chA_len h.2.2⟩
theorem chGs_len {P : Pg} {N : List Str} {dl : Bool} {sc : Scope} : ∀ {ts : Tgs} {l : List Expr}, chGs P N dl sc ts l = true → l.all notStar = true
  | .nil, [], _ => rfl
  | .nil, _ :: _, h => nomatch h
  | .cons _ _, [], h => nomatch h
  | .cons e es, a :: l, h => by
    simp only [chGs, Bool.and_eq_true] at h
    simp only [List.all_cons, Bool.and_eq_true]
    exact ⟨h.1, chGs_len h.2.2⟩
theorem chGs_ln {P : Pg} {N : List Str} {dl : Bool} {sc : Scope} : ∀ {ts : Tgs} {l : List Expr}, chGs P N dl sc ts l = true → l.length = ts.len
  | .nil, [], _ => rfl
  | .nil, _ :: _, h => nomatch h
  | .cons _ _, [], h => nomatch h
  | .cons e es, a :: l, h => by
    simp only [chGs, Bool.and_eq_true] at h
    exact congrArg (· + 1) (chGs_ln h.2.2)
theorem chK_all {P : Pg} {N : List Str} {sc : Scope} : ∀ {es : Exs} {l : List Keyword}, chK P N sc es l = true → l.all (fun k => k.arg.isSome) = true
  | .nil, [], _ => rfl
  | .nil, _ :: _, h => nomatch h
  | .cons _ _, [], h => nomatch h
  | .cons e es, ⟨none, a, p⟩ :: l, h => nomatch h
  | .cons e es, ⟨some y, a, p⟩ :: l, h => by
    simp only [chK, Bool.and_eq_true] at h
    simp only [List.all_cons, Bool.and_eq_true]
    exact ⟨rfl, chK_all h.2⟩
theorem kwNames_len : ∀ {l : List Keyword}, (kwNames l).length = l.length
  | [] => rfl
  | ⟨some y, a, p⟩ :: l => congrArg (· + 1) kwNames_len
  | ⟨none, a, p⟩ :: l => congrArg (· + 1) kwNames_len
theorem kw_all {env : PySem.Env} {pos : Pos} : ∀ {kws : List Keyword}, kws.all (fun k => k.arg.isSome) = true → (backToKw pos (keywordEach kws env)).all (fun x => x.1.isSome) = true
  | [], _ => rfl
  | ⟨some y, a, p⟩ :: l, h => by
    simp only [List.all_cons, Bool.and_eq_true] at h
    show (true && (backToKw pos (keywordEach l env)).all (fun x => x.1.isSome)) = true
    rw [kw_all h.2]; rfl
  | ⟨none, a, p⟩ :: l, h => nomatch h
theorem form_of {l : List Expr} {kws : List Keyword} {env : PySem.Env} {pos : Pos} (h1 : l.all notStar = true) (h2 : kws.all (fun k => k.arg.isSome) = true) (h3 : l.length + kws.length < 20) :
    methodCallForm (l.length + kws.length) (backTo pos (starEach l env)) (backToKw pos (keywordEach kws env)) = true := by
  unfold methodCallForm
  rw [starEach_all h1, kw_all h2]
  simp only [Bool.true_and, decide_eq_true_eq]
  split <;> omega
theorem wan_mono {X : Cx} {σ : L2.St} {H : Hp} {l : List Expr} {Q Q' : List V → Hp → Prop} (h : WAn X l σ H Q) (f : ∀ v H', Q v H' → Q' v H') : WAn X l σ H Q' := ⟨fun e => f _ _ (h.1 e), h.2.mono f⟩
theorem mL_of {P : Pg} {m : Str} {d : D} {cs : CS} {f : Nat} (h : mL P m d cs = some f) : ∃ c fs ci, insOf cs d = some (c, fs) ∧ fs.lookup m = none ∧ P.meth c m = some f ∧ P.cls[c]? = some ci := by
  unfold mL at h
  split at h
  · rename_i c fs hi
    split at h
    · rename_i hl
      have h' := h
      unfold Pg.meth at h'
      cases e : P.cls[c]? with
      | none => rw [e] at h'; cases h'
      | some ci => exact ⟨c, fs, ci, hi, hl, h, e⟩
    · cases h
  · cases h

theorem wipe_at {σ : L2.St} : ∀ {vs : List Nat} (j : Nat), (wipe σ vs)[j]? = if j ∈ vs then (σ[j]?).map (fun _ => none) else σ[j]?
  | [], j => by simp [wipe]
  | v :: vs, j => by
    unfold wipe
    by_cases hv : v = j
    · subst hv
      rw [if_pos List.mem_cons_self]
      by_cases hl : v < (wipe σ vs).length
      · rw [List.getElem?_set_self hl]
        rw [wipe_length] at hl
        rw [List.getElem?_eq_getElem hl]; rfl
      · rw [List.getElem?_eq_none (by simpa using hl)]
        rw [wipe_length] at hl
        rw [List.getElem?_eq_none (by simpa using hl)]; rfl
    · rw [List.getElem?_set_ne hv, wipe_at j]
      by_cases hj : j ∈ vs
      · rw [if_pos hj, if_pos (List.mem_cons_of_mem _ hj)]
      · rw [if_neg hj, if_neg (by simp only [List.mem_cons, not_or]; exact ⟨fun e => hv e.symm, hj⟩)]
section
variable {P : Pg} {N : List Str}
theorem chE_bi {sc : Scope} {b : Bi} {es : Exs} {e : Expr} (h : chE P N sc (.bi b es) e = true) :
    (∃ t ex x q1 a y q2 p, b = .isi t ∧ es = .cons ex .nil ∧ e = .Call (.Name x q1) [a, .Name y q2] [] p ∧ x = ("isinstance" : Str) ∧ bname P sc x = true ∧ t ∈ tyQ ∧ y = Str.ofString t ∧ bname P sc y = true ∧ notStar a = true ∧ chE P N sc ex a = true) ∨
    (∃ c ex x q1 a y q2 p, b = .isc c ∧ es = .cons ex .nil ∧ e = .Call (.Name x q1) [a, .Name y q2] [] p ∧ x = ("isinstance" : Str) ∧ bname P sc x = true ∧ gname P sc y (.cls c) = true ∧ notStar a = true ∧ chE P N sc ex a = true) ∨
    (∃ x q1 a l p k, e = .Call (.Name x q1) (a :: l) [] p ∧ biName b = some (x, k) ∧ bname P sc x = true ∧ chA P N sc es (a :: l) = true) := by
  unfold chE at h
  split at h
  all_goals first
    | (cases h; done)
    | (rename_i hq; cases hq; done)
    | skip
  · rename_i hq
    cases hq
    simp only [Bool.and_eq_true, decide_eq_true_eq] at h
    obtain ⟨h1, h2, h0, h3, h4, h5, h6⟩ := h
    exact .inl ⟨_, _, _, _, _, _, _, _, rfl, rfl, rfl, h1, h2, h0, h3, h4, h5, h6⟩
  · rename_i hq
    cases hq
    simp only [Bool.and_eq_true, decide_eq_true_eq] at h
    obtain ⟨h1, h2, h3, h5, h6⟩ := h
    exact .inr (.inl ⟨_, _, _, _, _, _, _, _, rfl, rfl, rfl, h1, h2, h3, h5, h6⟩)
  · rename_i hq
    cases hq
    simp only [Bool.and_eq_true] at h
    obtain ⟨h1, h2⟩ := h
    split at h1
    · rename_i y k e
      simp only [Bool.and_eq_true, decide_eq_true_eq] at h1
      obtain ⟨rfl, h1⟩ := h1
      exact .inr (.inr ⟨_, _, _, _, _, _, rfl, e, h1, h2⟩)
    · exact nomatch h1
end

section
variable {P : Pg} {N : List Str} {Φ : PhT} {ca fa : Nat → Addr} {lv : Nat} {X : Cx} {sc : Scope}
theorem Fx.to {X' : Cx} (f : Fx P Φ ca fa lv X) (h1 : X'.prog = X.prog) (h2 : X'.w = X.w) (h3 : X'.K = X.K) (h4 : X'.mg = X.mg) (h5 : X'.base = X.base) : Fx P Φ ca fa lv X' := by
  obtain ⟨p, w, K, mg, base, A, N', s0, H0, env, outer, stack, ex, fn, calm, pn, xe⟩ := X'
  dsimp only at h1 h2 h3 h4 h5
  subst h1 h2 h3 h4 h5
  exact ⟨fun i f' h => ⟨(f.fn i f' h).ex⟩, f.gfn, f.gcl, f.free, f.cls, f.fld, f.meth, f.prop, f.con, f.mkr, f.ccn, f.isB, f.isC, f.ity, f.ocl, f.eqk, f.eqb, f.sta, f.neq, f.fin, f.rad, f.rpr, f.inj⟩
/-- the same inside a comprehension -/
theorem Gd.blk (g : Gd P N Φ ca fa lv X sc) (s : Shared) (H : Hp) (scope : Scope) (cl : List (Str × Addr)) (C : Addr) (fp : List Addr) : Gd P N Φ ca fa lv (X.blk s H scope (compEnvC scope cl C X.env) fp) (relS scope sc) :=
  ⟨g.fx.to rfl rfl rfl rfl rfl, g.hN, by rw [← g.hsc]; rfl, g.calm, g.nd, g.room, g.units, g.big⟩
theorem wipe_wipe {σ : L2.St} {l : List Nat} : wipe (wipe σ l) l = wipe σ l := by
  refine List.ext_getElem? fun j => ?_
  rw [wipe_at, wipe_at]
  by_cases hj : j ∈ l
  · rw [if_pos hj, if_pos hj]
    cases σ[j]? <;> rfl
  · rw [if_neg hj, if_neg hj]
abbrev WTs (X : Cx) (ifs : List Expr) : TT := fun σ H Q => ∀ (pins : List (Addr × Obj)) (s : Shared), Inv X pins σ H s →
    wpAny (model X.prog X.w) X.A (forIn ifs true fun c r => if r = true then do let ok ← isTrue c X.env (eval c X.env); pure (ForInStep.yield ok) else pure (ForInStep.yield r)) (TP X pins σ Q) X.xe s
theorem WTs.mono {e : List Expr} {σ : L2.St} {H : Hp} {Q Q' : Bool → Hp → Prop} (h : WTs X e σ H Q) (f : ∀ v H', Q v H' → Q' v H') : WTs X e σ H Q' := fun pins s I => thn (h pins s I) fun u s' ⟨H', I', q⟩ => ⟨H', I', f u H' q⟩
theorem folded_chR {sr : Sr} {e : Expr} {env : PySem.Env} (h : chR P N sc sr e = true) : ∀ x, foldedSetIterable e env x = pure x := by
  refine folded_of ?_
  cases sr with
  | it e' =>
    simp only [chR, Bool.and_eq_true] at h
    exact h.1
  | rng1 e' => cases e with
    | Call _ _ _ _ => rfl
    | _ => exact nomatch h
  | rng2 a b => cases e with
    | Call _ _ _ _ => rfl
    | _ => exact nomatch h
end
section
variable {P : Pg} {N : List Str}
theorem chF_cons {sc : Scope} {ex : Ex} {es : Exs} {l : List Expr} (h : chF P N sc (.cons ex es) l = true) :
    (∃ x k p l', ex = .str x ∧ l = .Constant (.str x) k p :: l' ∧ chF P N sc es l' = true) ∨
    (∃ e a p l', ex = .bi .repr (.cons e .nil) ∧ l = .FormattedValue a 114 none p :: l' ∧ chE P N sc e a = true ∧ chF P N sc es l' = true) := by
  unfold chF at h
  split at h
  all_goals first
    | (cases h; done)
    | (rename_i hq; cases hq; done)
    | skip
  · rename_i hq
    cases hq
    simp only [Bool.and_eq_true, decide_eq_true_eq] at h
    obtain ⟨rfl, h⟩ := h
    exact .inl ⟨_, _, _, _, rfl, rfl, h⟩
  · rename_i hq
    cases hq
    simp only [Bool.and_eq_true] at h
    exact .inr ⟨_, _, _, _, rfl, rfl, h⟩
theorem chT_val {sc : Scope} {x : Ex} {e : Expr} (h : chT P N sc (.val x) e = true) :
    (∃ op a b l r p, x = .cmp op a b ∧ e = .Compare l [op] [r] p ∧ notSet r = true ∧ chE P N sc a l = true ∧ chE P N sc b r = true) ∨
    (∃ o1 o2 a b c l r t p, x = .chn o1 o2 a b c ∧ e = .Compare l [o1, o2] [r, t] p ∧ notSet t = true ∧ chE P N sc a l = true ∧ chE P N sc b r = true ∧ chE P N sc c t = true) ∨
    (plainT e = true ∧ chE P N sc x e = true) := by
  unfold chT at h
  split at h
  all_goals first
    | (cases h; done)
    | (rename_i hq; cases hq; done)
    | skip
  · rename_i hq
    cases hq
    simp only [Bool.and_eq_true, decide_eq_true_eq] at h
    obtain ⟨rfl, h⟩ := h
    exact .inl ⟨_, _, _, _, _, _, rfl, rfl, h⟩
  · rename_i hq
    cases hq
    simp only [Bool.and_eq_true, decide_eq_true_eq] at h
    obtain ⟨rfl, rfl, h⟩ := h
    exact .inr (.inl ⟨_, _, _, _, _, _, _, _, _, rfl, rfl, h⟩)
  · rename_i hq _ _
    cases hq
    simp only [Bool.and_eq_true] at h
    exact .inr (.inr h)
theorem isc_P {c : Nat} {d : D} {Q : D → Bool → Prop} (h : roK (biopP P (.isc c) [d]) Q) : (∃ c' fs ci, d = .ins c' fs ∧ P.cls[c']? = some ci ∧ Q (.bl (decide (c' = c))) false) ∨ (∃ n, tyN d = some n ∧ Q (.bl false) false) := by
  cases d with
  | ins c' fs =>
    have h : roK (if (P.cls[c']?).isSome then some (.bl (decide (c' = c)), false) else none) Q := h
    split at h
    · rename_i hs
      obtain ⟨ci, hci⟩ := Option.isSome_iff_exists.mp hs
      exact .inl ⟨c', fs, ci, rfl, hci, h⟩
    · exact h.elim
  | rol _ => exact h.elim
  | cell _ => exact h.elim
  | _ => exact .inr ⟨_, rfl, h⟩
end
/-! ### built-ins -/
theorem boot_bi {b : Bi} {y : Str} {k : Bool} (h : biName b = some (y, k)) : bootBuiltins y = some (biV b) := by
  cases b <;> cases h <;> rfl
theorem boot_ty {n t : String} {b : Bool} (h : subT n t = some b) : bootBuiltins (Str.ofString t) = some (.type t) := by
  have m := subT_mem h
  simp only [List.mem_cons, List.not_mem_nil, or_false] at m
  rcases m with rfl | rfl | rfl | rfl | rfl | rfl
  · exact rfl
  · exact rfl
  · exact rfl
  · exact rfl
  · exact rfl
  · exact rfl
theorem boot_ty' {t : String} (m : t ∈ ["str", "int", "bool", "list", "tuple", "dict"]) : bootBuiltins (Str.ofString t) = some (.type t) := by
  simp only [List.mem_cons, List.not_mem_nil, or_false] at m
  rcases m with rfl | rfl | rfl | rfl | rfl | rfl
  · exact rfl
  · exact rfl
  · exact rfl
  · exact rfl
  · exact rfl
  · exact rfl
theorem callB {M : Model} {A : Around} {E : Value → Shared → Prop} {s : Shared} {env : PySem.Env} {b : Bi} {pos : Pos} {e : Expr} {rest : List Expr} {Q : Value → Shared → Prop}
    (h : wpAny M A (spliced (backTo pos (starEach (e :: rest) env))) (fun vs s₁ => wpAny M A (call (biV b) vs) Q E s₁) E s)
    (he : starEach (e :: rest) env = (false, eval e env) :: starEach rest env) (hplain : (backTo pos (starEach rest env)).any (·.1) = false) :
    wpAny M A (callWith pos (biV b) [] (backTo pos (starEach (e :: rest) env)) []) Q E s := by
  have k : (∃ id, biV b = .builtin id) ∨ ∃ T, biV b = .type T := by
    cases b <;> first
      | exact .inl ⟨_, rfl⟩
      | exact .inr ⟨_, rfl⟩
  rcases k with ⟨id, e1⟩ | ⟨T, e1⟩
  · rw [e1] at h ⊢
    exact PyProof.Rows.callWith_builtin1 h he hplain
  · rw [e1] at h ⊢
    exact PyProof.Rows.callWith_type1 h he hplain
theorem bm_slot (m : Bm) (hm : m ≠ .append) : Slot "str" (bmName m) (bmId m) ∧ typeOf (.builtin (bmId m)) = pure (.type "method_descriptor") := by
  cases m with
  | join => exact ⟨PySem.F.slot_str_join, PySem.F.type_str_join⟩
  | find => exact ⟨PySem.F.slot_str_find, PySem.F.type_str_find⟩
  | isascii => exact ⟨PySem.F.slot_str_isascii, PySem.F.type_str_isascii⟩
  | isalpha => exact ⟨PySem.F.slot_str_isalpha, PySem.F.type_str_isalpha⟩
  | islower => exact ⟨PySem.F.slot_str_islower, PySem.F.type_str_islower⟩
  | strip => exact ⟨PySem.F.slot_str_strip, PySem.F.type_str_strip⟩
  | index => exact ⟨PySem.F.slot_str_index, PySem.F.type_str_index⟩
  | append => exact absurd rfl hm

/-! ### targets of names alone -/
theorem wipe_set {σ : L2.St} {vs : List Nat} {i : Nat} {w : Option V} (h : i ∈ vs) : wipe (σ.set i w) vs = wipe σ vs := by
  refine List.ext_getElem? fun j => ?_
  rw [wipe_at, wipe_at]
  by_cases hj : j ∈ vs
  · rw [if_pos hj, if_pos hj]
    by_cases e : i = j
    · subst e
      by_cases hl : i < σ.length
      · rw [List.getElem?_set_self hl, List.getElem?_eq_getElem hl]; rfl
      · rw [List.getElem?_eq_none (by simpa using hl), List.getElem?_eq_none (by simpa using hl)]
    · rw [List.getElem?_set_ne e]
  · rw [if_neg hj, if_neg hj, List.getElem?_set_ne (fun e => hj (by rw [← e]; exact h))]
theorem EnvR.wiped {K : PySem.W.Frag} {ca : Nat → Addr} {G : Hp} {env : Env} {σ : L2.St} (r : EnvR K ca G env σ) : ∀ (l : List Nat), EnvR K ca G (wipeE env l) (wipe σ l)
  | [] => r
  | v :: l => by unfold wipeE wipe; exact (r.wiped l).put
theorem EnvR.unwiped {K : PySem.W.Frag} {ca : Nat → Addr} {G : Hp} {env : Env} {σ : L2.St} {l : List Nat} (r : EnvR K ca G env (wipe σ l)) : EnvR K ca G env σ := by
  refine ⟨by rw [r.1, wipe_length], fun i d e => ?_⟩
  obtain ⟨v, h1, h2⟩ := r.2 i d e
  exact ⟨v, (wipe_some h1).1, h2⟩
section
variable {P : Pg} {N : List Str} {Φ : PhT} {ca fa : Nat → Addr} {lv : Nat}
mutual
theorem sN {own : List Nat} : ∀ (t : Tg) {sc : Scope} {e : Expr} {X : Cx}, tgOwn own t = true → chG P N false sc t e → X.N = N → N.Nodup → X.env.scope = sc → X.calm = true → ∀ {σ : L2.St} {H G : Hp} {env : Env} {cs : CS} {W : WT} {k : KT} {d : D} {v : V}, Ok X.K ca G H cs → EnvR X.K ca G env σ → Rep X.K ca G d v →
    wpG P Φ t d env cs W k → WG X e v σ H (fun σ' H' => wipe σ' own = wipe σ own ∧ PT' X ca G k σ' H')
  | .nm i, sc, e, X, ho, hc, hN, hd, hs, hcm, σ, H, G, env, cs, W, k, d, v, ok, er, w, h => by
    cases e with
    | Name x p =>
      simp only [chG, Bool.and_eq_true, decide_eq_true_eq] at hc
      obtain ⟨c1, c2⟩ := hc
      have hl : X.env.scope.names.lookup x = some .local := by
        rw [hs]
        split at c2
        · assumption
        · cases c2
        · cases c2
      simp only [wpG] at h
      refine (pg_name (X := X) (by rw [hN]; exact hd) (by rw [hN]; exact c1) (.inl hl) (.inr hl)).wg ?_
      refine ⟨wipe_set (by simpa [tgOwn] using ho), G, _, cs, Same.refl _, ok, er.set w, h⟩
    | _ => exact nomatch hc
  | .tup ts, sc, e, X, ho, hc, hN, hd, hs, hcm, σ, H, G, env, cs, W, k, d, v, ok, er, w, h => by
    cases e with
    | Tuple l kx p =>
      simp only [chG] at hc
      simp only [wpG] at h
      split at h
      · rename_i xs hx
        obtain ⟨n1, n2⟩ := assignEach_len (env := X.env) (chGs_len hc)
        have r := dv_rep ok w
        rw [hx] at r
        obtain ⟨a, vs, rfl, h1, h2⟩ := r
        refine (pg_tup (X := X) (n := l.length) hcm (pWGs l) n1 n2).wg ⟨a, vs, rfl, h1, ?_, sNs ts (by simpa [tgOwn] using ho) hc hN hd hs hcm ok er h2 h.2⟩
        rw [chGs_ln hc, h.1, h2.length]
      · exact h.elim
    | _ => exact nomatch hc
  | .sub _ _, sc, e, X, ho, hc, hN, hd, hs, hcm, σ, H, G, env, cs, W, k, d, v, ok, er, w, h => nomatch ho
  | .fld _ _, sc, e, X, ho, hc, hN, hd, hs, hcm, σ, H, G, env, cs, W, k, d, v, ok, er, w, h => nomatch ho
theorem sNs {own : List Nat} : ∀ (ts : Tgs) {sc : Scope} {l : List Expr} {X : Cx}, tgsOwn own ts = true → chGs P N false sc ts l → X.N = N → N.Nodup → X.env.scope = sc → X.calm = true → ∀ {σ : L2.St} {H G : Hp} {env : Env} {cs : CS} {W : WT} {k : KT} {ds : List D} {vs : List V}, Ok X.K ca G H cs → EnvR X.K ca G env σ → RepL X.K ca G ds vs →
    wpGs P Φ ts ds env cs W k → WGs X l vs σ H (fun σ' H' => wipe σ' own = wipe σ own ∧ PT' X ca G k σ' H')
  | .nil, sc, l, X, ho, hc, hN, hd, hs, hcm, σ, H, G, env, cs, W, k, ds, vs, ok, er, w, h => by
    cases l with
    | cons _ _ => exact nomatch hc
    | nil =>
      cases w with
      | cons _ _ => exact h.elim
      | nil =>
        simp only [wpGs] at h
        exact (pgs_nil (X := X)).wg ⟨rfl, rfl, G, env, cs, Same.refl _, ok, er, h⟩
  | .cons t ts, sc, l, X, ho, hc, hN, hd, hs, hcm, σ, H, G, env, cs, W, k, ds, vs, ok, er, w, h => by
    cases l with
    | nil => exact nomatch hc
    | cons a l =>
      simp only [chGs, Bool.and_eq_true] at hc
      simp only [tgsOwn, Bool.and_eq_true] at ho
      cases w with
      | nil => exact h.elim
      | cons w r =>
        simp only [wpGs] at h
        refine (pgs_cons (X := X) (pWG a) (pWGs l) (by rw [assignEach_cons hc.1]; rfl)).wg ⟨_, _, rfl, (sN t ho.1 hc.2.1 hN hd hs hcm ok er w h).mono fun σ1 H1 q => ?_⟩
        obtain ⟨e1, G1, env1, cs1, s1, ok1, er1, h1⟩ := q
        refine WGs.mono (sNs ts ho.2 hc.2.2 hN hd hs hcm ok1 er1 (r.mono s1) h1) fun σ2 H2 q => ⟨q.1.trans e1, q.2.lift s1⟩
end
end

/-! ### comprehensions -/
abbrev WBG (X : Cx) (scope : Scope) (t : Expr) : TG := fun v σ H Q => ∀ (s0 : Shared) (H0 : Hp) (C : Addr) (cl : List (Str × Addr)) (fp : List Addr), WG (X.blk s0 H0 scope (compEnvC scope cl C X.env) fp) t v σ H Q
abbrev WBTs (X : Cx) (scope : Scope) (ifs : List Expr) : TT := fun σ H Q => ∀ (s0 : Shared) (H0 : Hp) (C : Addr) (cl : List (Str × Addr)) (fp : List Addr), WTs (X.blk s0 H0 scope (compEnvC scope cl C X.env) fp) ifs σ H Q
abbrev WBE (X : Cx) (scope : Scope) (e : Expr) : TE := fun σ H Q => ∀ (s0 : Shared) (H0 : Hp) (C : Addr) (cl : List (Str × Addr)) (fp : List Addr), WE (X.blk s0 H0 scope (compEnvC scope cl C X.env) fp) e σ H Q
section
variable {P : Pg} {N : List Str} {Φ : PhT} {ca fa : Nat → Addr} {lv : Nat}
theorem lc_of {own : List (Str × Nat)} {tg : Tg} {cond : Co} {elt : Ex} {sc scope : Scope} {t it e1 : Expr} {ifs : List Expr} {X : Cx} {σ : L2.St} {H G : Hp} {Q : QT} (g : Gd P N Φ ca fa lv X sc)
    (c1 : tgOwn (own.map (·.2)) tg = true) (c3 : chG P N false (relS scope sc) tg t = true)
    (hR : WI X t it σ H (PI' X ca G σ (fun its env1 cs1 => ∀ a, cs1 a = none →
      forL (fun d env cs k => wpG P Φ tg d (wipeE env (own.map (·.2))) cs WN fun env1 cs1 => wpC P Φ cond env1 cs1 WN fun b env2 cs2 =>
        if b = true then wpE P Φ elt env2 cs2 WN fun d _ env3 cs3 => appW a d cs3 (k env3) else k env2 cs2) its env1 (cset cs1 a (.lst []))
        fun env2 cs2 => (match cs2 a with
          | some (.lst xs) => Q (.lst xs) true (wipeE env2 (own.map (·.2))) (cdel cs2 a)
          | _ => False))))
    (hC : ∀ (s0 : Shared) (H0 : Hp) (C : Addr) (cl : List (Str × Addr)) (fp : List Addr) {σ : L2.St} {H G : Hp} {env : Env} {cs : CS} {Q : Bool → Env → CS → Prop}, Ok X.K ca G H cs → EnvR X.K ca G env σ → wpC P Φ cond env cs WN Q → WTs (X.blk s0 H0 scope (compEnvC scope cl C X.env) fp) ifs σ H (PB (X.blk s0 H0 scope (compEnvC scope cl C X.env) fp) ca G σ Q))
    (hE : ∀ (s0 : Shared) (H0 : Hp) (C : Addr) (cl : List (Str × Addr)) (fp : List Addr) {σ : L2.St} {H G : Hp} {env : Env} {cs : CS} {Q : QT}, Ok X.K ca G H cs → EnvR X.K ca G env σ → wpE P Φ elt env cs WN Q → WE (X.blk s0 H0 scope (compEnvC scope cl C X.env) fp) e1 σ H (PQ (X.blk s0 H0 scope (compEnvC scope cl C X.env) fp) ca G σ Q)) :
    tLc (WI X t it) (WBG X scope t) (WBTs X scope ifs) (WBE X scope e1) (own.map (·.2)) σ H (PQ X ca G σ Q) := by
  refine hR.mono fun J H1 ⟨G1, env1, cs1, its, t1, ok1, er1, it1, h1⟩ => fun D hD => ?_
  have h1 := h1 D (ok1.noC hD)
  generalize hl : own.map (·.2) = l at h1 c1 ⊢
  have ok2 : Ok X.K ca G1 (upd H1 D (.lst [])) (cset cs1 D (.lst [])) := ok1.write (ok1.noG hD) ⟨[], upd_same, .nil⟩
  refine ⟨fun i m H => ∃ G' env' cs', Same G1 G' ∧ Ok X.K ca G' H cs' ∧ EnvR X.K ca G' (wipeE env' l) (wipe σ l) ∧ m = its.length - i ∧ forL (fun d env cs k => wpG P Φ tg d (wipeE env l) cs WN fun env1 cs1 => wpC P Φ cond env1 cs1 WN fun b env2 cs2 =>
      if b = true then wpE P Φ elt env2 cs2 WN fun d _ env3 cs3 => appW D d cs3 (k env3) else k env2 cs2) (its.drop i) env' cs' (fun env2 cs2 => (match cs2 D with
        | some (.lst xs) => Q (.lst xs) true (wipeE env2 l) (cdel cs2 D)
        | _ => False)), ⟨its.length, G1, env1, _, Same.refl _, ok2, er1.wiped l, rfl, h1⟩, fun i m H ⟨G', env', cs', s1, ok3, er3, hm, hf⟩ => ?_⟩
  have itk := it1 i H (s1.trans ok3.sub)
  cases hi : its[i]? with
  | none =>
    refine .inl ⟨itk.2 hi, ?_⟩
    rw [List.drop_eq_nil_of_le (List.getElem?_eq_none_iff.mp hi)] at hf
    unfold forL at hf
    split at hf
    · rename_i xs hx
      obtain ⟨k1, k2⟩ := ok3.cel _ _ hx
      refine ⟨G', _, _, _, true, t1.trans s1, ok3.drop D, er3.unwiped, ?_, hf⟩
      unfold RepR; rw [if_pos rfl]
      exact ⟨D, _, rfl, rfl, k1, cdel_same, k2⟩
    · exact hf.elim
  | some d =>
    obtain ⟨j1, j2⟩ := itk.1 d hi
    have hil := (List.getElem?_eq_some_iff.mp hi).1
    have hd : its.drop i = d :: its.drop (i + 1) := by
      rw [List.drop_eq_getElem_cons hil]
      rw [(List.getElem?_eq_some_iff.mp hi).2]
    rw [hd] at hf
    unfold forL at hf
    refine .inr ⟨j1, _, fun H' q => q, fun x H' yl s0 H0 C cl fp => ?_⟩
    obtain ⟨rfl, rx⟩ := j2 x H' yl
    refine (sN tg c1 c3 (X := X.blk s0 H0 scope (compEnvC scope cl C X.env) fp) g.hN g.nd (g.blk s0 H0 scope cl C fp).hsc g.calm ok3 er3 (rx.mono s1) hf).mono fun σ2 H2 q2 => ?_
    obtain ⟨e2, G2, env2, cs2, t2, ok4, er4, h2⟩ := q2
    rw [wipe_wipe] at e2
    refine ⟨e2, fun s0' H0' C' cl' fp' => ?_⟩
    refine (hC s0' H0' C' cl' fp' ok4 er4 h2).mono fun b H3 q3 => ?_
    obtain ⟨G3, env3, cs3, t3, ok5, er5, h3⟩ := q3
    have e5 : EnvR X.K ca G3 (wipeE env3 l) (wipe σ l) := by rw [← e2]; exact er5.wiped l
    cases b with
    | false =>
      rw [if_neg Bool.false_ne_true] at h3 ⊢
      exact ⟨its.length - (i + 1), by omega, G3, env3, cs3, (s1.trans t2).trans t3, ok5, e5, rfl, h3⟩
    | true =>
      rw [if_pos rfl] at h3 ⊢
      intro s0'' H0'' C'' cl'' fp''
      refine (hE s0'' H0'' C'' cl'' fp'' ok5 er5 h3).mono fun y H4 q4 => ?_
      obtain ⟨G4, env4, cs4, d4, t4, ok6, er6, w4, h4⟩ := q4.tree
      unfold appW at h4
      split at h4
      · rename_i xs hx
        obtain ⟨k1, vs, k2, k3⟩ := ok6.cel _ _ hx
        refine ⟨vs, k2, by rw [← k3.length]; exact h4.1, its.length - (i + 1), by omega, G4, env4, _, ((s1.trans t2).trans t3).trans t4, ok6.write (o := .lst (xs ++ [d4])) k1 ⟨_, upd_same, k3.append (.cons w4 .nil)⟩, ?_, rfl, h4.2⟩
        rw [← e2]; exact er6.wiped l
      · exact h4.elim
end
section
variable {P : Pg} {N : List Str} {X : Cx} {sc : Scope} {ca : Nat → Addr} {G H : Hp} {σ : L2.St} {cs : CS} {env : Env} {Q : QT}
theorem chE_rev {a : Ex} {e : Expr} (h : chE P N sc (.rev a) e = true) : ∃ (l : Expr) (k : Nat) (p1 p2 p3 p : Pos), e = .Subscript l (.Slice none none (some (.UnaryOp .USub (.Constant (.int 1) k p1) p2)) p3) p ∧ chE P N sc a l = true := by
  unfold chE at h
  split at h
  all_goals first
    | (rename_i z; cases z; exact ⟨_, _, _, _, _, _, rfl, h⟩)
    | (rename_i z _; cases z; done)
    | (rename_i z; cases z; done)
    | (cases h; done)
    | (exact nomatch h)
theorem chE_isi2 {t u : String} {ex : Ex} {e : Expr} (h : chE P N sc (.isi2 t u ex) e = true) : ∃ x q1 a y q2 z q3 k q4 p, e = .Call (.Name x q1) [a, .Tuple [.Name y q2, .Name z q3] k q4] [] p ∧ x = ("isinstance" : Str) ∧ bname P sc x = true ∧ t ∈ tyQ ∧ y = Str.ofString t ∧ bname P sc y = true ∧ u ∈ tyQ ∧ z = Str.ofString u ∧ bname P sc z = true ∧ notStar a = true ∧ chE P N sc ex a = true := by
  unfold chE at h
  split at h
  all_goals first
    | (cases h; done)
    | (rename_i hq; cases hq; done)
    | skip
  rename_i hq
  cases hq
  simp only [Bool.and_eq_true, decide_eq_true_eq] at h
  obtain ⟨h1, h2, h3, h4, h5, h6, h7, h8, h9, h10⟩ := h
  exact ⟨_, _, _, _, _, _, _, _, _, _, rfl, h1, h2, h3, h4, h5, h6, h7, h8, h9, h10⟩
theorem kit_any2 {K : PySem.W.Frag} {n t u : String} {b : Bool} (hn : n ∈ tyNs) (ht : t ∈ tyQ) (hu : u ∈ tyQ) (h : ((subT n t).bind fun b => if b = true then some true else subT n u) = some b) : PySem.W.kitAny K (.type n) [.type t, .type u] = some b := by
  cases e : subT n t with
  | none => rw [e] at h; cases h
  | some c =>
    rw [e] at h
    have k1 := kit_ty (K := K) ((kit_all n hn t ht).trans e)
    cases c with
    | true => cases h; show (match PySem.W.kitOne K (.type n) (.type t) with | some true => some true | some false => _ | none => none) = _; rw [k1]
    | false =>
      have h : subT n u = some b := h
      have k2 := kit_ty (K := K) ((kit_all n hn u hu).trans h)
      show (match PySem.W.kitOne K (.type n) (.type t) with | some true => some true | some false => PySem.W.kitAny K (.type n) [.type u] | none => none) = _
      rw [k1]
      show (match PySem.W.kitOne K (.type n) (.type u) with | some true => some true | some false => some false | none => none) = _
      rw [k2]
      cases b <;> rfl
theorem chE_dic0 {e : Expr} (h : chE P N sc .dic0 e = true) : ∃ p, e = .Dict [] [] p := by
  cases e with
  | Dict k v p => match k, v, h with
    | [], [], _ => exact ⟨p, rfl⟩
  | _ => exact nomatch h
theorem PQ.newD {p : Addr} (ok : Ok X.K ca G H cs) (er : EnvR X.K ca G env σ) (h : H p = none) (q : Q (.dic []) true env cs) : PQ X ca G σ Q (.ref p) (upd H p (.dK [])) := by
  refine ⟨G, env, cs, _, _, Same.refl _, ok.alloc h, er, ?_, q⟩
  unfold RepR; rw [if_pos rfl]
  exact ⟨p, .dic [], rfl, rfl, ok.noG h, ok.noC h, [], upd_same, .nil⟩
theorem RepL.reverse {K : PySem.W.Frag} {d : List D} {v : List V} (r : RepL K ca G d v) : RepL K ca G d.reverse v.reverse := by
  induction d generalizing v with
  | nil => cases r; exact .nil
  | cons x xs ih => cases r with
    | cons h r => rw [List.reverse_cons, List.reverse_cons]; exact (ih r).append (.cons h .nil)
theorem str_rev_idx (z : Str) : (Builtin.Str.strSliceIndices none none (-1) z.length).filterMap (z.cps[·]?) = z.cps.toList.reverse := by
  show (sliceRange ((z.cps.size : Int) - 1) (-1) (-1)).filterMap (z.cps[·]?) = _
  rw [PySem.W.krv_sliceRange, PySem.W.krv_range, List.filterMap_reverse, PySem.W.krv_all]
theorem rev_ok {l : Expr} {k : Nat} {p1 p2 p3 : Pos} {d : D} {x : V} {v vs : Value} {pins : List (Addr × Obj)} {s : Shared} (ok : Ok X.K ca G H cs) (er : EnvR X.K ca G env σ) (r1 : RepH X.K ca G H d x) (h : roK (revD d) fun d fr => Q d fr env cs)
    (I : Inv X pins σ H s) (rx : RelV x v) (ps : IsPart vs (some (-1))) : wpAny (model X.prog X.w) X.A (subscriptTail l (.Slice none none (some (.UnaryOp .USub (.Constant (.int 1) k p1) p2)) p3) v (.ref s.heap.objs.size)) (EP X pins σ (PQ X ca G σ Q)) X.xe
      { s with heap := s.heap.push { cls := .type "slice", data := .fields #[.none, .none, vs] } } := by
  have I5 : Inv X pins σ H { s with heap := s.heap.push { cls := .type "slice", data := .fields #[.none, .none, vs] } } := I.kept (t' := s.toks) fun b ob q => Heap.get?_push_of_some _ q
  unfold revD at h
  split at h
  · split at h
    · rename_i z c
      cases r1
      obtain ⟨t, rfl⟩ := rx
      cases ps with
      | int i t2 =>
        refine tail_any (ops := [.ref s.heap.objs.size, .str z t]) (typeIs_str _ _ _) F.slot_str_getitem.lookup ?_ (by with_unfolding_all rfl)
        refine wpAny_getItem_str_slice (l := none) (u := none) (st := some (-1, t2)) ⟨_, Heap.get?_push_size _ rfl, rfl, rfl⟩ rfl ?_
        show Made.post (if ((-1 : Int) == 1 && (Builtin.Str.strSliceIndices none none (-1) z.length).length == z.length) = true then Made.val (.str z t)
          else Made.str ⟨((Builtin.Str.strSliceIndices none none (-1) z.length).filterMap (z.cps[·]?)).toArray⟩) _ _
        rw [if_neg (by simp), str_rev_idx]
        refine ⟨?_, .str _, H, I5.tok _, ⟨_, rfl⟩, PQ.mk ok er (.str _) h⟩
        show z.cps.toList.reverse.toArray.size ≤ sizeLine
        simp only [List.size_toArray, List.length_reverse, Array.length_toList]
        exact okSz_le c
    · exact h.elim
  · obtain ⟨a, xs, rfl, ha, rl⟩ := r1
    cases rx
    obtain ⟨its, r, ht, hz⟩ := I5.list (SqL.of ha)
    have hlen := r.length
    refine tail_any (ops := [.ref a, .ref s.heap.objs.size]) ht.isList.typeIs (PySem.slot_list_getitem.lookup) ?_ (by with_unfolding_all rfl)
    refine wpAny_getItem_list_slice ht.isList (Heap.IsSliceOf.new _ .none .none vs) .none .none ps (by decide) ?_ (by rw [List.size_toArray]; omega)
    rw [PySem.W.krv_pick]
    refine ⟨.ref _, _, I5.laid (t' := s.toks) (o := .lst xs.reverse) (fun b ob q => Heap.get?_push_of_some _ q) (Nat.le_refl _) ?_, rfl, PQ.newL ok er (I5.hok.fresh (Nat.le_refl _)) rl.reverse h⟩
    exact ⟨by rw [List.length_reverse]; exact hz, _, 0, r.reverse, Heap.get?_push_size _ rfl⟩
  · exact h.elim
end
end Dw
set_option Elab.async false
set_option linter.all false
set_option maxRecDepth 100000
set_option maxHeartbeats 4000000
/-! sorted(set(e)), list(range(e)), {k: i}: the written forms. -/
namespace Dw
open PySem PySem.Spec PyProof.Rows L2
section
variable {P : Pg} {N : List Str} {X : Cx} {sc : Scope} {ca : Nat → Addr} {G H : Hp} {σ : L2.St} {cs : CS} {env : Env} {Q : QT}
theorem chE_sset {ex : Ex} {e : Expr} (h : chE P N sc (.sset ex) e = true) : ∃ (a : Expr) (q1 q2 p2 p : Pos), e = .Call (.Name "sorted" q1) [.Call (.Name "set" q2) [a] [] p2] [] p ∧ bname P sc "sorted" = true ∧ bname P sc "set" = true ∧ notStar a = true ∧ chE P N sc ex a = true := by
  unfold chE at h
  split at h
  all_goals first
    | (rename_i z; cases z; simp only [Bool.and_eq_true, decide_eq_true_eq] at h; obtain ⟨rfl, rfl, h1, h2, h3, h4⟩ := h; exact ⟨_, _, _, _, _, rfl, h1, h2, h3, h4⟩)
    | (rename_i z _; cases z; done)
    | (rename_i z; cases z; done)
    | (cases h; done)
theorem chE_lrg {ex : Ex} {e : Expr} (h : chE P N sc (.lrg ex) e = true) : ∃ (a : Expr) (q1 q2 p2 p : Pos), e = .Call (.Name "list" q1) [.Call (.Name "range" q2) [a] [] p2] [] p ∧ bname P sc "list" = true ∧ bname P sc "range" = true ∧ notStar a = true ∧ chE P N sc ex a = true := by
  unfold chE at h
  split at h
  all_goals first
    | (rename_i z; cases z; simp only [Bool.and_eq_true, decide_eq_true_eq] at h; obtain ⟨rfl, rfl, h1, h2, h3, h4⟩ := h; exact ⟨_, _, _, _, _, rfl, h1, h2, h3, h4⟩)
    | (rename_i z _; cases z; done)
    | (rename_i z; cases z; done)
    | (cases h; done)
theorem chE_dic1 {k : Str} {i : Int} {e : Expr} (h : chE P N sc (.dic1 k i) e = true) : ∃ (n1 n2 : Nat) (p1 p2 p : Pos), e = .Dict [some (.Constant (.str k) n1 p1)] [.Constant (.int i) n2 p2] p := by
  unfold chE at h
  split at h
  all_goals first
    | (rename_i z; cases z; simp only [Bool.and_eq_true, decide_eq_true_eq] at h; obtain ⟨rfl, rfl⟩ := h; exact ⟨_, _, _, _, _, rfl⟩)
    | (rename_i z _; cases z; done)
    | (rename_i z; cases z; done)
    | (cases h; done)
theorem strs_repL {K : PySem.W.Frag} : ∀ ys : List Str, RepL K ca G (ys.map D.str) (ys.map V.str)
  | [] => .nil
  | _ :: r => .cons (.str _) (strs_repL r)
theorem ints_repL {K : PySem.W.Frag} {α : Type} (f : α → Int) : ∀ ys : List α, RepL K ca G (ys.map fun i => D.int (f i)) (ys.map fun i => V.int (f i))
  | [] => .nil
  | _ :: r => .cons (.int _) (ints_repL f r)
theorem txOf_rep {d : D} {x : V} {xs : List Str} (r : RepH X.K ca G H d x) (h : setItems d = some xs) : TxOf X.K H x xs := by
  cases d with
  | str z => cases r; cases h; exact .inl ⟨z, rfl, rfl⟩
  | lst ds =>
    obtain ⟨a, vs, rfl, ha, rl⟩ := r
    have h : strsD ds = some xs := h
    rw [strs_rep rl h] at ha
    exact .inr ⟨a, rfl, SqL.of ha⟩
  | _ => cases h
theorem we_dic1 {k : Str} {i : Int} {n1 n2 : Nat} {p1 p2 p : Pos} (ok : Ok X.K ca G H cs) (er : EnvR X.K ca G env σ) (h : Q (.dic [(.str k, .int i)]) true env cs) :
    WE X (.Dict [some (.Constant (.str k) n1 p1)] [.Constant (.int i) n2 p2] p) σ H (PQ X ca G σ Q) := by
  refine (pe_disp (X := X) (pps_cons (pe_str (X := X)) (pe_int (X := X)) pps_nil) rfl rfl (fun z => by cases z) (show 1 ≤ 15 by decide)).we fun a hn => ?_
  refine ⟨upd_same, [(.inr k, .int i)], rfl, (show 1 ≤ 15 by decide), ?_⟩
  have e : upd (upd H a (.dK [])) a (.dK (mergeK [] [(Sum.inr k, V.int i)])) = upd H a (.dK [(Sum.inr k, V.int i)]) := by
    funext b
    by_cases z : b = a
    · rw [z, upd_same, upd_same]; rfl
    · rw [upd_ne z, upd_ne z, upd_ne z]
  rw [e]
  refine ⟨G, env, cs, _, _, Same.refl _, ok.alloc hn, er, ?_, h⟩
  unfold RepR; rw [if_pos rfl]
  exact ⟨a, .dic [(.str k, .int i)], rfl, rfl, ok.noG hn, ok.noC hn, [(.inr k, .int i)], upd_same, (show RepK X.K ca G [(kD (.inr k), .int i)] [(.inr k, .int i)] from .cons (.int i) .nil)⟩
end
end Dw
set_option Elab.async false
set_option linter.all false
set_option maxRecDepth 100000
set_option maxHeartbeats 4000000
/-! Own operators of instances. -/
namespace Dw
section
open PySem PySem.Spec PySem.W PyProof.Rows
section
variable {prog : Program} {w : World} {A : Around} {E : Value → Shared → Prop} {s : Shared} {K : Frag} {x C L f : Addr} {h₀ : Heap} {m : Str → Option Value} {ox : Obj} {od : Option Obj} {b tb : Value} {Q : Value → Shared → Prop}
theorem ne_entry (hu : A.units < cLine) (X : K.In s.heap) (I : InstAt s.heap x ox C od) (hs : findIn K (.ref C) "__eq__" = some (some (.ref f))) (hf : isFn K (.ref f) = true) {R : Fin → Shared → Prop}
    (h : wpAny (model prog w) A (call (.ref f) [.ref x, b]) (fun r s' => r ≠ .notImplemented ∧ wpAny (model prog w) A (truthy r) (fun k s'' => R (.done (.ret (.bool (!k)))) s'') E s') E s) :
    wpAny (model prog w) A (Builtin.«object.__ne__» ⟨[.ref x, b], []⟩) R E s := by
  unfold Builtin.«object.__ne__»
  refine wpAny_bind (m := slotArgs "__ne__" 1 _) (wpAny_pure ?_)
  refine wpAny_bind (wpAny_cRoomFor hu ?_)
  refine wpAny_bind (ifBound_K X I hs hf (wpAny_mono h (fun r s' z => ?_) fun _ _ e => e))
  obtain ⟨z1, z2⟩ := z
  cases r <;> first
    | exact absurd rfl z1
    | exact wpAny_bind (wpAny_mono z2 (fun k s'' q => wpAny_pure q) fun _ _ e => e)
theorem ne_own_K (hu : A.units + 1 < cLine) (Fh : Fr h₀ L s.heap m) (X₀ : K.In h₀) (I : InstAt s.heap x ox C od) (hb : Looks (model prog w) s.heap (typeOf b) tb) (hn : notFirst K C tb = true)
    (hne : findIn K (.ref C) "__ne__" = some (some (.builtin "object.__ne__"))) (hob : mroIn K C (.type "object") = some true) (hs : findIn K (.ref C) "__eq__" = some (some (.ref f))) (hf : isFn K (.ref f) = true)
    (h : wpAny (model prog w) A.in1 (call (.ref f) [.ref x, b]) (fun r s' => r ≠ .notImplemented ∧ wpAny (model prog w) A.in1 (truthy r) (fun k s'' => Q (.bool (!k)) s'') E s') E s) :
    wpAny (model prog w) A (richCompare .NotEq (.ref x) b) Q E s := by
  have X := X₀.keeps Fh.keep
  have hi : Looks (model prog w) s.heap (isInstance (.ref x) (.type "object")) true := I.type.andThen (looks_subIn X (show subIn K (.ref C) (.type "object") = some true from hob))
  have ask : wpAny (model prog w) A (call (.builtin "object.__ne__") [.ref x, b]) (fun v s' => ∃ k, v = .bool k ∧ Q v s') E s := by
    refine wpAny_call (codeAny_call_builtin F.cmp_object.ne.plain F.cmpEntry_ne (check_slot F.cmpKind_ne F.cmpSplit_ne hi (F.cmpArgs_ne _ _) (ne_entry (A := A.in1) (show A.units + 1 < cLine from hu) X I hs hf ?_)))
    refine wpAny_mono h (fun r s' z => ⟨z.1, wpAny_mono z.2 (fun k s'' q => ?_) fun _ _ e => e⟩) fun _ _ e => e
    exact ⟨!k, rfl, q⟩
  have one : wpAny (model prog w) A (tryCompare (.ref x) "__ne__" b) (fun r s' => ∃ v, r = some v ∧ Q v s') E s := by
    unfold tryCompare
    refine wpAny_bind ?_
    simp only [callSpecialIfBound?, bindSpecialIfBound?]
    refine wpAny_holding (wpAny_bind (wpAny_bind (wpAny_bind (I.type.here ((looks_findIn X hne).here ?_)))))
    refine wpAny_bind (wpAny_askSetting (wpAny_ite ?_))
    have fin : wpAny (model prog w) A (call (.builtin "object.__ne__") ([.ref x] ++ [b]) >>= fun v => pure (some v)) (fun r s' => ∃ k, r = some (.bool k) ∧ Q (.bool k) s') E s := wpAny_bind (wpAny_mono ask (fun v s' ⟨k, e, q⟩ => wpAny_pure ⟨k, by rw [e], by rw [← e]; exact q⟩) fun _ _ e => e)
    have bs := (Looks.of_pure (M := model prog w) (h := s.heap) (F.cmp_object.ne.bind (.ref x)))
    split
    · refine wpAny_bind (bs.here (wpAny_pure ?_))
      exact wpAny_mono fin (fun r s' ⟨k, e, q⟩ => by subst e; exact wpAny_pure ⟨_, rfl, q⟩) fun _ _ e => e
    · refine wpAny_tryCatch (wpAny_bind (bs.here (wpAny_pure ?_)))
      exact wpAny_mono fin (fun r s' ⟨k, e, q⟩ => by subst e; exact wpAny_pure ⟨_, rfl, q⟩) fun _ _ e => e
  unfold richCompare
  simp only [oneThing_ref]
  refine wpAny_holding (wpAny_bind (wpAny_cRoomFor (by omega) ?_))
  refine wpAny_bind (I.type.here (wpAny_bind (hb.here ?_)))
  have go : wpAny (model prog w) A (tryCompare (.ref x) "__ne__" b) (fun r s' => ∃ v, r = some v ∧ Q v s') E s := one
  split
  · rename_i q
    have e : subIn K tb (.ref C) = some false := by
      cases Bool.or_eq_true_iff.mp hn with
      | inl e => rw [beq_iff_eq.mp e] at q; simp at q
      | inr e => exact beq_iff_eq.mp e
    apply wpAny_bind
    apply (looks_subIn X e).here
    rw [if_neg Bool.false_ne_true]
    exact wpAny_bind (wpAny_mono go (fun r s' ⟨v, e1, hq⟩ => by subst e1; exact wpAny_pure hq) fun _ _ e => e)
  · apply wpAny_bind
    apply wpAny_pure
    rw [if_neg Bool.false_ne_true]
    exact wpAny_bind (wpAny_mono go (fun r s' ⟨v, e1, hq⟩ => by subst e1; exact wpAny_pure hq) fun _ _ e => e)
end
end
section
open PySem PySem.Spec PySem.W PyProof.Rows
variable {prog : Program} {w : World} {A : Around} {E : Value → Shared → Prop} {s : Shared} {K : Frag} {x C L f : Addr} {h₀ : Heap} {m : Str → Option Value} {ox : Obj} {od : Option Obj} {Q : Value → Shared → Prop}
theorem fillsR_K {M : Model} {h : Heap} {nm : String} {cd : ClassData} {rest : List Value} (X : K.In h) (hc : clsIn K C = some cd) (hm : cd.mro = .ref C :: rest) (h1 : findIn K (.ref C) (PySem.dunder nm) = some none) (h2 : findIn K (.ref C) (dunderR nm) = some (some (.ref f))) : Looks M h (fillsNumberSlot (.ref C) nm) true := by
  intro A Q E s k q
  unfold fillsNumberSlot
  apply wpAny_bind
  apply (looks_clsIn X hc).andThen (f := fun cd => pure cd.mro) .now A _ E s k
  rw [hm, List.anyM_cons]
  apply wpAny_bind
  show wpAny M A (List.anyM _ [PySem.dunder nm, dunderR nm]) _ _ _
  rw [List.anyM_cons]
  apply wpAny_bind
  apply wpAny_bind
  apply looks_findIn X h1 A _ E s k
  dsimp only
  apply wpAny_pure
  rw [if_neg Bool.false_ne_true, List.anyM_cons]
  apply wpAny_bind
  apply wpAny_bind
  apply looks_findIn X h2 A _ E s k
  dsimp only
  rw [if_pos (show (!ownNameWrapper (.ref f) (dunderR nm)) = true from rfl)]
  apply wpAny_pure
  rw [if_pos rfl]
  apply wpAny_pure
  rw [if_pos rfl]
  exact wpAny_pure q
theorem radd_K {z : Str} {t : Tok} (Fh : Fr h₀ L s.heap m) (X₀ : K.In h₀) (I : InstAt s.heap x ox C od) (hc : selfFirst K C = true) (h1 : findIn K (.ref C) (PySem.dunder "add") = some none) (h2 : findIn K (.ref C) (dunderR "add") = some (some (.ref f))) (hf : isFn K (.ref f) = true)
    (h : wpAny (model prog w) A (call (.ref f) [.ref x, .str z t]) (PySem.W.CmpBack Q) E s) : wpAny (model prog w) A (binaryOp .Add (.str z t) (.ref x)) Q E s := by
  have X := X₀.keeps Fh.keep
  obtain ⟨cd, hcd, hm⟩ := any_some hc
  have hm : ∃ rest, cd.mro = .ref C :: rest := by
    cases q : cd.mro with
    | nil => rw [q] at hm; cases hm
    | cons a r => rw [q, List.head?_cons] at hm; exact ⟨r, by cases (beq_iff_eq.mp hm); rfl⟩
  obtain ⟨rest, hm⟩ := hm
  have ts : typeOf (.str z t) = pure (.type "str") := rfl
  unfold binaryOp
  apply wpAny_holding
  show wpAny _ _ (binaryOp1 "add" (.str z t) (.ref x) >>= _) _ _ _
  apply wpAny_bind
  unfold binaryOp1
  rw [ts]
  refine wpAny_bind (wpAny_pure (wpAny_bind (I.type.here ?_)))
  rw [PySem.noFill_str_add]
  refine wpAny_bind (wpAny_pure ?_)
  rw [if_neg (by simp)]
  refine wpAny_bind ((fillsR_K X hcd hm h1 h2).here ?_)
  simp only [Bool.false_and, Bool.false_eq_true, if_false]
  refine wpAny_bind (wpAny_pure ?_)
  simp only [Bool.false_eq_true, if_false, Bool.not_false, Bool.and_true, if_true]
  apply wpAny_bind
  unfold tryMethod
  refine wpAny_bind (special_fn X I h2 (beq_iff_eq.mp hf) (wpAny_mono h (fun v s' hv => ?_) fun _ _ e => e))
  cases v <;> first
    | exact hv.elim
    | exact wpAny_pure (wpAny_bind (wpAny_rule (wpAny_pure (wpAny_pure hv))))
    | exact wpAny_pure (wpAny_pure (wpAny_pure hv))
end
open PySem PySem.Spec PyProof.Rows L2
section
variable {P : Pg} {N : List Str} {Φ : PhT} {X : Cx} {sc : Scope} {ca fa : Nat → Addr} {lv : Nat} {G H : Hp} {σ : L2.St} {cs : CS} {env : Env} {W : WT} {Q : QT} {pins : List (Addr × Obj)} {s : Shared}
/-- an instance, as the fragment's rules ask for it -/
theorem inst_at (ok : Ok X.K ca G H cs) (I : Inv X pins σ H s) {d : D} {x : V} {v : Value} {c : Nat} {fs : List (Str × D)} (w : Rep X.K ca G d x) (h : insOf cs d = some (c, fs)) (rv : RelV x v) :
    ∃ a ox od, x = .ref a ∧ v = .ref a ∧ PySem.W.InstAt s.heap a ox (ca c) od := by
  obtain ⟨a, dx, vs, rfl, ha, _⟩ := ins_rep ok w h
  cases rv
  obtain ⟨m, O, _⟩ := ins_get I.hok ha
  obtain ⟨od, J, _⟩ := O.look
  exact ⟨a, _, _, rfl, rfl, J⟩
/-- a value's type, as the model looks it up -/
theorem looks_ty {w : World} {prog : Program} (I : Inv X pins σ H s) {d : D} {x : V} {v : Value} {n : String} (r : RepH X.K ca G H d x) (h : tyN d = some n) (rv : RelV x v) : PySem.W.Looks (model prog w) s.heap (typeOf v) (.type n) := by
  cases d with
  | non => cases r; cases rv; cases h; exact PySem.W.Looks.of_pure rfl
  | bl b => cases r; cases rv; cases h; exact PySem.W.Looks.of_pure rfl
  | int i => cases r; obtain ⟨t, rfl⟩ := rv; cases h; exact PySem.W.Looks.of_pure rfl
  | str z => cases r; obtain ⟨t, rfl⟩ := rv; cases h; exact PySem.W.Looks.of_pure rfl
  | lst xs =>
    obtain ⟨a, vs, rfl, ha, _⟩ := r
    cases rv; cases h
    obtain ⟨its, n, _, ho, _⟩ := I.lst ha
    exact (PySem.W.Looks.ld ho).andThen .now
  | tup xs =>
    obtain ⟨a, vs, rfl, ha, _⟩ := r
    cases rv; cases h
    obtain ⟨its, _, ⟨o, ho, hc, _⟩, _⟩ := I.tuple ha
    exact hc ▸ (PySem.W.Looks.ld ho).andThen .now
  | dic xs =>
    obtain ⟨a, vs, rfl, ha, _⟩ := r
    cases rv; cases h
    obtain ⟨_, _, vs', _, o, es, ep, h1, h2, _⟩ := (show ObjOk X.prog X.w H s.heap a (.dK vs) from I.hok a _ ha)
    exact h2.1 ▸ (PySem.W.Looks.ld h1).andThen .now
  | _ => cases h
/-- x == y by the own def of x's class; y of a built-in kind -/
theorem cmp_ownB {op : CmpOp} (hop : ∀ a b, compareOp op a b = richCompare op a b) (g : Gd P N Φ ca fa lv X sc) (M : Mono Φ) (ok : Ok X.K ca G H cs) (er : EnvR X.K ca G env σ) (I : Inv X pins σ H s) {d1 d2 : D} {x y : V} {v u : Value} {c gi : Nat} {fs : List (Str × D)} {n : String}
    (w1 : Rep X.K ca G d1 x) (w2 : Rep X.K ca G d2 y) (rx : RelV x v) (ry : RelV y u) (h1 : insOf cs d1 = some (c, fs)) (h2 : tyN (dv cs d2) = some n) (hm : P.meth c (cmpInfo op).2.1 = some gi) (hn : PySem.W.notFirst X.K (ca c) (.type n) = true)
    (hW : WOk X ca G W) (h : phi P Φ gi [d1, d2] cs (fun d fr cs' => Q d fr env cs') (fun x cs' => W x env cs')) : wpAny (model X.prog X.w) X.A (compareOp op v u) (EP X pins σ (PQ X ca G σ Q)) X.xe s := by
  obtain ⟨a, ox, od, rfl, rfl, J⟩ := inst_at ok I w1 h1 rx
  have J2 := looks_ty (prog := X.prog) (w := X.w) I (dv_rep ok w2) h2 ry
  obtain ⟨km, _⟩ := g.fx.meth c _ gi hm
  obtain ⟨m, hF⟩ := I.fr
  rw [hop]
  refine PySem.W.cmp_K (op := op) (tb := .type n) (g.room.units0) hF I.ok.mod.kin J J2 hn km.at_ km.fn ?_
  exact thn (run_phi g M I (show Vals [V.ref a, y] [Value.ref a, u] from .cons rfl (.cons ry .nil)) ok er (.cons w1 (.cons w2 .nil)) hW h) fun w s' ⟨z, H', I', rz, q⟩ => SlX.cmpback rz ⟨z, H', I', rz, q⟩
/-- x op y by the own def of x's class; y an instance, too -/
theorem cmp_own {op : CmpOp} (hop : ∀ a b, compareOp op a b = richCompare op a b) (g : Gd P N Φ ca fa lv X sc) (M : Mono Φ) (ok : Ok X.K ca G H cs) (er : EnvR X.K ca G env σ) (I : Inv X pins σ H s) {d1 d2 : D} {x y : V} {v u : Value} {c c2 gi : Nat} {fs fs2 : List (Str × D)}
    (w1 : Rep X.K ca G d1 x) (w2 : Rep X.K ca G d2 y) (rx : RelV x v) (ry : RelV y u) (h1 : insOf cs d1 = some (c, fs)) (h2 : insOf cs d2 = some (c2, fs2)) (hm : P.meth c (cmpInfo op).2.1 = some gi) (hn : PySem.W.notFirst X.K (ca c) (.ref (ca c2)) = true)
    (hW : WOk X ca G W) (h : phi P Φ gi [d1, d2] cs (fun d fr cs' => Q d fr env cs') (fun x cs' => W x env cs')) : wpAny (model X.prog X.w) X.A (compareOp op v u) (EP X pins σ (PQ X ca G σ Q)) X.xe s := by
  obtain ⟨a, ox, od, rfl, rfl, J⟩ := inst_at ok I w1 h1 rx
  obtain ⟨b, ox2, od2, rfl, rfl, J2⟩ := inst_at ok I w2 h2 ry
  obtain ⟨km, _⟩ := g.fx.meth c _ gi hm
  obtain ⟨m, hF⟩ := I.fr
  rw [hop]
  refine PySem.W.cmp_K (op := op) (tb := .ref (ca c2)) (g.room.units0) hF I.ok.mod.kin J J2.type hn km.at_ km.fn ?_
  exact thn (run_phi g M I (show Vals [V.ref a, V.ref b] [Value.ref a, Value.ref b] from .cons rfl (.cons rfl .nil)) ok er (.cons w1 (.cons w2 .nil)) hW h) fun w s' ⟨z, H', I', rz, q⟩ => SlX.cmpback rz ⟨z, H', I', rz, q⟩
theorem subI_of {i : Expr} (h : notSlice i = true) (o v : Value) : subscripted i true o v = runValue (.builtin "lifetime.subscript" ⟨[o, v], []⟩) := by
  cases i <;> first | rfl | exact nomatch h
/-- a def of ours is called from within a built-in -/
theorem run_in1 {i : Nat} {us : List Value} {vs : List V} {ds : List D} (g : Gd P N Φ ca fa lv X sc) (M : Mono Φ) (I : Inv X pins σ H s) (rv : Vals vs us) (ok : Ok X.K ca G H cs) (er : EnvR X.K ca G env σ)
    (rl : RepL X.K ca G ds vs) (hW : WOk X ca G W) (h : phi P Φ i ds cs (fun d fr cs' => Q d fr env cs') (fun x cs' => W x env cs')) : wpAny (model X.prog X.w) X.A.in1 (call (.ref (fa i)) us) (EP X pins σ (PQ X ca G σ Q)) X.xe s := by
  obtain ⟨ha, h⟩ := h
  unfold Pg.ar at ha
  cases hf : P.fns[i]? with
  | none => rw [hf] at ha; cases ha
  | some fi =>
    rw [hf] at ha
    have hl : ds.length = fi.ps.length := (Option.some.inj ha).symm
    obtain ⟨fd, F, hb, _⟩ := (g.fx.fn i fi hf).ex
    obtain ⟨Wc, tk, hw⟩ := hW
    have hus : us.length = fi.ps.length := by rw [← rv.length, ← rl.length, hl]
    have sp : spW X.K ca fi.ps.length (Φ i) vs H (PQ X ca G σ Q) (fun c dx H' => Wc c dx σ H') :=
      ⟨G, cs, ds, ok, rl, hl, M i ds cs (fun d fr c q G' H' v s1 ok1 r1 => ⟨G', env, c, d, fr, s1, ok1, er.mono s1, r1, q⟩) (fun x c q G' H' cv dx s1 ok1 r1 => hw σ G' H' env c x cv dx s1 ok1 (er.mono s1) r1 q) h⟩
    refine wpAny_call (codeAny_mono (F.run X.A.in1 (show X.A.in1.guards = some [] from g.units) X.stack s H ⟨us, []⟩ us vs _ _ g.room.in1 I.env0.in1 (hb s us I.kIn hus) rv sp) fun r s' hq => ?_)
    match r, hq with
    | .error e, hq => exact tk e s' (XE.of_call I (fun _ _ _ h => h) hq)
    | .ok (.ret u), hq => exact I.after hq
    | .ok .next, hq => exact False.elim hq
    | .ok .brk, hq => exact False.elim hq
    | .ok .cont, hq => exact False.elim hq
/-- o[i] by the own def -/
theorem sub_own {o i : Expr} (g : Gd P N Φ ca fa lv X sc) (M : Mono Φ) (ok : Ok X.K ca G H cs) (er : EnvR X.K ca G env σ) (I : Inv X pins σ H s) {d1 d2 : D} {x y : V} {v u : Value} {c gi : Nat} {fs : List (Str × D)}
    (w1 : Rep X.K ca G d1 x) (w2 : Rep X.K ca G d2 y) (rx : RelV x v) (ry : RelV y u) (h1 : insOf cs d1 = some (c, fs)) (hm : P.meth c "__getitem__" = some gi) (hf : PySem.W.fnIn X.K (fa gi) = true) (hs : notSlice i = true)
    (hW : WOk X ca G W) (h : phi P Φ gi [d1, d2] cs (fun d fr cs' => Q d fr env cs') (fun x cs' => W x env cs')) : wpAny (model X.prog X.w) X.A (subscriptTail o i v u) (EP X pins σ (PQ X ca G σ Q)) X.xe s := by
  obtain ⟨a, ox, od, rfl, rfl, J⟩ := inst_at ok I w1 h1 rx
  obtain ⟨km, _⟩ := g.fx.meth c _ gi hm
  obtain ⟨m, hF⟩ := I.fr
  exact PySem.W.sub_K hF I.ok.mod.kin J km.at_ hf km.fn (run_in1 g M I (show Vals [V.ref a, y] [Value.ref a, u] from .cons rfl (.cons ry .nil)) ok er (.cons w1 (.cons w2 .nil)) hW h) (subI_of hs _ _)
/-- v in o by the own def, which gives a bool -/
theorem in_own (g : Gd P N Φ ca fa lv X sc) (M : Mono Φ) (ok : Ok X.K ca G H cs) (er : EnvR X.K ca G env σ) (I : Inv X pins σ H s) {d1 d2 : D} {x y : V} {v u : Value} {c gi : Nat} {fs : List (Str × D)}
    (w1 : Rep X.K ca G d1 x) (w2 : Rep X.K ca G d2 y) (rx : RelV x v) (ry : RelV y u) (h2 : insOf cs d2 = some (c, fs)) (hm : P.meth c "__contains__" = some gi)
    (hW : WOk X ca G W) (h : phi P Φ gi [d2, d1] cs (fun d fr cs' => ∃ b, d = .bl b ∧ Q (.bl b) false env cs') (fun x cs' => W x env cs')) : wpAny (model X.prog X.w) X.A (compareOp .In v u) (EP X pins σ (PQ X ca G σ Q)) X.xe s := by
  obtain ⟨b, ox, od, rfl, rfl, J⟩ := inst_at ok I w2 h2 ry
  obtain ⟨km, _⟩ := g.fx.meth c _ gi hm
  obtain ⟨m, hF⟩ := I.fr
  refine PySem.W.in_K hF I.ok.mod.kin J km.at_ km.fn ?_
  refine thn (run_phi (Q := fun d fr env' cs' => ∃ b, d = .bl b ∧ Q (.bl b) false env' cs') g M I (show Vals [V.ref b, x] [Value.ref b, v] from .cons rfl (.cons rx .nil)) ok er (.cons w2 (.cons w1 .nil)) hW h) fun w s' ⟨z, H', I', rz, q⟩ => ?_
  obtain ⟨G', env', cs', d, t1, ok1, er1, r1, k, rfl, q2⟩ := q.tree
  cases r1
  cases rz
  exact wpAny_truthy_bool ⟨.bl k, H', I', rfl, (PQ.mk ok1 er1 (.bl k) q2).lift t1⟩
theorem in_own2 (g : Gd P N Φ ca fa lv X sc) (M : Mono Φ) (ok : Ok X.K ca G H cs) (er : EnvR X.K ca G env σ) (I : Inv X pins σ H s) {d1 d2 : D} {x y : V} {v u : Value} {c gi : Nat} {fs : List (Str × D)} {Qb : Bool → Env → CS → Prop}
    (w1 : Rep X.K ca G d1 x) (w2 : Rep X.K ca G d2 y) (rx : RelV x v) (ry : RelV y u) (h2 : insOf cs d2 = some (c, fs)) (hm : P.meth c "__contains__" = some gi)
    (hW : WOk X ca G W) (h : phi P Φ gi [d2, d1] cs (fun d fr cs' => ∃ b, d = .bl b ∧ Qb b env cs') (fun x cs' => W x env cs')) : wpAny (model X.prog X.w) X.A (compareOp .In v u) (EP X pins σ (CQ (PB X ca G σ Qb))) X.xe s := by
  obtain ⟨b, ox, od, rfl, rfl, J⟩ := inst_at ok I w2 h2 ry
  obtain ⟨km, _⟩ := g.fx.meth c _ gi hm
  obtain ⟨m, hF⟩ := I.fr
  refine PySem.W.in_K hF I.ok.mod.kin J km.at_ km.fn ?_
  refine thn (run_phi (Q := fun d fr env' cs' => ∃ b, d = .bl b ∧ Qb b env' cs') g M I (show Vals [V.ref b, x] [Value.ref b, v] from .cons rfl (.cons rx .nil)) ok er (.cons w2 (.cons w1 .nil)) hW h) fun w s' ⟨z, H', I', rz, q⟩ => ?_
  obtain ⟨G', env', cs', d, t1, ok1, er1, r1, k, rfl, q2⟩ := q.tree
  cases r1
  cases rz
  exact wpAny_truthy_bool ⟨.bl k, H', I', rfl, k, rfl, G', env', cs', t1, ok1, er1, q2⟩
/-- a text + x by x's own __radd__ -/
theorem radd_own (g : Gd P N Φ ca fa lv X sc) (M : Mono Φ) (ok : Ok X.K ca G H cs) (er : EnvR X.K ca G env σ) (I : Inv X pins σ H s) {z : Str} {d2 : D} {x y : V} {v u : Value} {c gi : Nat} {fs : List (Str × D)}
    (w1 : Rep X.K ca G (.str z) x) (w2 : Rep X.K ca G d2 y) (rx : RelV x v) (ry : RelV y u) (h2 : insOf cs d2 = some (c, fs)) (hm : P.meth c "__radd__" = some gi)
    (hW : WOk X ca G W) (h : phi P Φ gi [d2, .str z] cs (fun d fr cs' => Q d fr env cs') (fun x cs' => W x env cs')) : wpAny (model X.prog X.w) X.A (binaryOp .Add v u) (EP X pins σ (PQ X ca G σ Q)) X.xe s := by
  obtain ⟨b, ox, od, rfl, rfl, J⟩ := inst_at ok I w2 h2 ry
  obtain ⟨km, _⟩ := g.fx.meth c _ gi hm
  obtain ⟨r1, r2⟩ := g.fx.rad c gi hm
  obtain ⟨m, hF⟩ := I.fr
  have w1' := w1
  cases w1
  have rx' := rx
  obtain ⟨t, rfl⟩ := rx
  refine radd_K hF I.ok.mod.kin J r1 r2 km.at_ km.fn ?_
  exact thn (run_phi g M I (show Vals [V.ref b, V.str z] [Value.ref b, Value.str z t] from .cons rfl (.cons rx' .nil)) ok er (.cons w2 (.cons w1' .nil)) hW h) fun w s' ⟨z, H', I', rz, q⟩ => SlX.cmpback rz ⟨z, H', I', rz, q⟩
theorem ne_ownB (g : Gd P N Φ ca fa lv X sc) (M : Mono Φ) (ok : Ok X.K ca G H cs) (er : EnvR X.K ca G env σ) (I : Inv X pins σ H s) {d1 d2 : D} {x y : V} {v u : Value} {c gi : Nat} {fs : List (Str × D)} {Qb : Bool → Env → CS → Prop} {ci : ClI} {n : String}
    (w1 : Rep X.K ca G d1 x) (w2 : Rep X.K ca G d2 y) (rx : RelV x v) (ry : RelV y u) (h1 : insOf cs d1 = some (c, fs)) (h2 : tyN (dv cs d2) = some n) (hm : P.meth c "__eq__" = some gi) (hci : P.cls[c]? = some ci) (hn : PySem.W.notFirst X.K (ca c) (.type n) = true)
    (hW : WOk X ca G W) (h : phi P Φ gi [d1, d2] cs (fun d _ cs' => ∃ b, d = .bl b ∧ Qb b env cs') (fun x cs' => W x env cs')) : wpAny (model X.prog X.w) X.A (compareOp .NotEq v u) (EP X pins σ (CQ (PB X ca G σ fun b => Qb (!b)))) X.xe s := by
  obtain ⟨a, ox, od, rfl, rfl, J⟩ := inst_at ok I w1 h1 rx
  have J2 := looks_ty (prog := X.prog) (w := X.w) I (dv_rep ok w2) h2 ry
  obtain ⟨km, _⟩ := g.fx.meth c _ gi hm
  obtain ⟨m, hF⟩ := I.fr
  refine (show wpAny (model X.prog X.w) X.A (richCompare .NotEq (.ref a) u) _ _ _ from ne_own_K (tb := .type n) (by have := g.room.units; omega) hF I.ok.mod.kin J J2 hn (g.fx.neq c gi hm) (g.fx.ity c ci hci).2 km.at_ km.fn ?_)
  refine thn (run_in1 (Q := fun d _ env' cs' => ∃ b, d = .bl b ∧ Qb b env' cs') g M I (show Vals [V.ref a, y] [Value.ref a, u] from .cons rfl (.cons ry .nil)) ok er (.cons w1 (.cons w2 .nil)) hW h) fun w s' ⟨z, H', I', rz, q⟩ => ?_
  obtain ⟨G', env', cs', d, t1, ok1, er1, r1, k, rfl, q2⟩ := q.tree
  cases r1
  cases rz
  exact ⟨(fun z => nomatch z), wpAny_truthy_bool ⟨.bl (!k), H', I', rfl, !k, rfl, G', env', cs', t1, ok1, er1, by show Qb (!(!k)) env' cs'; rw [Bool.not_not]; exact q2⟩⟩
/-- x != y by the own == -/
theorem ne_own (g : Gd P N Φ ca fa lv X sc) (M : Mono Φ) (ok : Ok X.K ca G H cs) (er : EnvR X.K ca G env σ) (I : Inv X pins σ H s) {d1 d2 : D} {x y : V} {v u : Value} {c c2 gi : Nat} {fs fs2 : List (Str × D)} {Qb : Bool → Env → CS → Prop} {ci : ClI}
    (w1 : Rep X.K ca G d1 x) (w2 : Rep X.K ca G d2 y) (rx : RelV x v) (ry : RelV y u) (h1 : insOf cs d1 = some (c, fs)) (h2 : insOf cs d2 = some (c2, fs2)) (hm : P.meth c "__eq__" = some gi) (hci : P.cls[c]? = some ci) (hn : PySem.W.notFirst X.K (ca c) (.ref (ca c2)) = true)
    (hW : WOk X ca G W) (h : phi P Φ gi [d1, d2] cs (fun d _ cs' => ∃ b, d = .bl b ∧ Qb b env cs') (fun x cs' => W x env cs')) : wpAny (model X.prog X.w) X.A (compareOp .NotEq v u) (EP X pins σ (CQ (PB X ca G σ fun b => Qb (!b)))) X.xe s := by
  obtain ⟨a, ox, od, rfl, rfl, J⟩ := inst_at ok I w1 h1 rx
  obtain ⟨b, ox2, od2, rfl, rfl, J2⟩ := inst_at ok I w2 h2 ry
  obtain ⟨km, _⟩ := g.fx.meth c _ gi hm
  obtain ⟨m, hF⟩ := I.fr
  refine (show wpAny (model X.prog X.w) X.A (richCompare .NotEq (.ref a) (.ref b)) _ _ _ from ne_own_K (tb := .ref (ca c2)) (by have := g.room.units; omega) hF I.ok.mod.kin J J2.type hn (g.fx.neq c gi hm) (g.fx.ity c ci hci).2 km.at_ km.fn ?_)
  refine thn (run_in1 (Q := fun d _ env' cs' => ∃ b, d = .bl b ∧ Qb b env' cs') g M I (show Vals [V.ref a, V.ref b] [Value.ref a, Value.ref b] from .cons rfl (.cons rfl .nil)) ok er (.cons w1 (.cons w2 .nil)) hW h) fun w s' ⟨z, H', I', rz, q⟩ => ?_
  obtain ⟨G', env', cs', d, t1, ok1, er1, r1, k, rfl, q2⟩ := q.tree
  cases r1
  cases rz
  exact ⟨(fun z => nomatch z), wpAny_truthy_bool ⟨.bl (!k), H', I', rfl, !k, rfl, G', env', cs', t1, ok1, er1, by show Qb (!(!k)) env' cs'; rw [Bool.not_not]; exact q2⟩⟩
/-- a comparison, as wpE tells it -/
theorem cmpW_ok {op : CmpOp} (g : Gd P N Φ ca fa lv X sc) (M : Mono Φ) (ok : Ok X.K ca G H cs) (er : EnvR X.K ca G env σ) {d1 d2 : D} {x y : V} {Qb : Bool → Env → CS → Prop} (w1 : Rep X.K ca G d1 x) (w2 : Rep X.K ca G d2 y) (hW : WOk X ca G W) (h : cmpW P Φ op d1 d2 env cs W Qb) :
    OW X (compareOp op) x y σ H (CQ (PB X ca G σ Qb)) := by
  intro pins s v u I rx ry
  have cls : ∀ {c gi : Nat} {m : Str}, P.meth c m = some gi → ∃ ci, P.cls[c]? = some ci := fun {c gi m} h => by
    unfold Pg.meth at h
    cases e : P.cls[c]? with
    | none => rw [e] at h; cases h
    | some ci => exact ⟨ci, rfl⟩
  unfold cmpW at h
  split at h
  · rename_i c fs h1
    unfold eqW at h
    split at h
    · rename_i gi c2 fs2 hm h2
      obtain ⟨hc2, h⟩ := h
      obtain ⟨ci2, hci2⟩ := Option.isSome_iff_exists.mp hc2
      obtain ⟨ci, hci⟩ := cls hm
      refine thn (cmp_own (Q := fun d _ env' cs' => ∃ b, d = .bl b ∧ Qb b env' cs') (op := .Eq) (fun _ _ => rfl) g M ok er I w1 w2 rx ry h1 h2 hm (g.fx.eqk c c2 ci ci2 hci hci2) hW h) fun w s' ⟨z, H', I', rz, q⟩ => ?_
      obtain ⟨G', env', cs', d, t1, ok1, er1, r1, k, rfl, q2⟩ := q.tree
      cases r1
      exact ⟨.bl k, H', I', rz, k, rfl, G', env', cs', t1, ok1, er1, q2⟩
    · rename_i gi hm h2
      obtain ⟨hc2, h⟩ := h
      obtain ⟨n, hn⟩ := Option.isSome_iff_exists.mp hc2
      obtain ⟨ci, hci⟩ := cls hm
      refine thn (cmp_ownB (Q := fun d _ env' cs' => ∃ b, d = .bl b ∧ Qb b env' cs') (op := .Eq) (fun _ _ => rfl) g M ok er I w1 w2 rx ry h1 hn hm (g.fx.eqb c ci n hci (ty_rep' (dv_rep ok w2) hn).2) hW h) fun w s' ⟨z, H', I', rz, q⟩ => ?_
      obtain ⟨G', env', cs', d, t1, ok1, er1, r1, k, rfl, q2⟩ := q.tree
      cases r1
      exact ⟨.bl k, H', I', rz, k, rfl, G', env', cs', t1, ok1, er1, q2⟩
    · exact h.elim
  · rename_i c fs h1
    unfold eqW at h
    split at h
    · rename_i gi c2 fs2 hm h2
      obtain ⟨hc2, h⟩ := h
      obtain ⟨ci2, hci2⟩ := Option.isSome_iff_exists.mp hc2
      obtain ⟨ci, hci⟩ := cls hm
      have q := ne_own (Qb := fun b => Qb (!b)) g M ok er I w1 w2 rx ry h1 h2 hm hci (g.fx.eqk c c2 ci ci2 hci hci2) hW h
      simp only [Bool.not_not] at q
      exact q
    · rename_i gi hm h2
      obtain ⟨hc2, h⟩ := h
      obtain ⟨n, hn⟩ := Option.isSome_iff_exists.mp hc2
      obtain ⟨ci, hci⟩ := cls hm
      have q := ne_ownB (Qb := fun b => Qb (!b)) g M ok er I w1 w2 rx ry h1 hn hm hci (g.fx.eqb c ci n hci (ty_rep' (dv_rep ok w2) hn).2) hW h
      simp only [Bool.not_not] at q
      exact q
    · exact h.elim
  · unfold inW at h
    split at h
    · rename_i c fs h2
      split at h
      · rename_i gi hm
        exact in_own2 g M ok er I w1 w2 rx ry h2 hm hW h
      · exact h.elim
    · exact cmpop_ok (R := fun b H' => PB X ca G σ Qb b H') (by have := g.room.units; omega) ok.sub (dv_rep ok w1) (dv_rep ok w2) h (fun b q => ⟨G, env, cs, Same.refl _, ok, er, q⟩) pins s v u I rx ry
  · exact cmpop_ok (R := fun b H' => PB X ca G σ Qb b H') (by have := g.room.units; omega) ok.sub (dv_rep ok w1) (dv_rep ok w2) h (fun b q => ⟨G, env, cs, Same.refl _, ok, er, q⟩) pins s v u I rx ry
end
end Dw
set_option Elab.async false
set_option linter.all false
set_option maxRecDepth 100000
set_option maxHeartbeats 2000000
/-! More is wanted of less: by the table of promises, by what is wanted. -/
namespace Dw
open PySem L2

def Le (Φ Ψ : PhT) : Prop := ∀ i ds cs {Q1 Q2 : D → Bool → CS → Prop} {E1 E2 : Exn → CS → Prop}, (∀ d fr c, Q1 d fr c → Q2 d fr c) → (∀ x c, E1 x c → E2 x c) → Φ i ds cs Q1 E1 → Ψ i ds cs Q2 E2
theorem roK_mono {r : RO} {Q Q' : D → Bool → Prop} (h : ∀ d fr, Q d fr → Q' d fr) (q : roK r Q) : roK r Q' := by
  cases r with
  | none => exact q.elim
  | some r => exact h _ _ q
theorem bK_mono {r : Option Bool} {Q Q' : Bool → Prop} (h : ∀ b, Q b → Q' b) (q : bK r Q) : bK r Q' := by
  cases r with
  | none => exact q.elim
  | some r => exact h _ q
section
variable {P : Pg} {Φ Ψ : PhT}
theorem phi_mono (L : Le Φ Ψ) {f : Nat} {ds : List D} {cs : CS} {Q1 Q2 : D → Bool → CS → Prop} {E1 E2 : Exn → CS → Prop} (h1 : ∀ d fr c, Q1 d fr c → Q2 d fr c) (h2 : ∀ x c, E1 x c → E2 x c) (h : phi P Φ f ds cs Q1 E1) : phi P Ψ f ds cs Q2 E2 := ⟨h.1, L f ds cs h1 h2 h.2⟩
variable {env : Env} {cs : CS} {W W' : WT} {Q Q' : QT}
theorem eqW_mono (L : Le Φ Ψ) {c : Nat} {d1 d2 : D} {Q Q' : Bool → Env → CS → Prop} (hW : ∀ x e c, W x e c → W' x e c) (hQ : ∀ b e c, Q b e c → Q' b e c) (h : eqW P Φ c d1 d2 env cs W Q) : eqW P Ψ c d1 d2 env cs W' Q' := by
  unfold eqW at h ⊢
  split at h
  · exact ⟨h.1, phi_mono L (fun _ _ _ ⟨b, e, q⟩ => ⟨b, e, hQ _ _ _ q⟩) (fun _ _ z => hW _ _ _ z) h.2⟩
  · exact ⟨h.1, phi_mono L (fun _ _ _ ⟨b, e, q⟩ => ⟨b, e, hQ _ _ _ q⟩) (fun _ _ z => hW _ _ _ z) h.2⟩
  · exact h.elim
theorem cmpW_mono (L : Le Φ Ψ) {op : CmpOp} {d1 d2 : D} {Q Q' : Bool → Env → CS → Prop} (hW : ∀ x e c, W x e c → W' x e c) (hQ : ∀ b e c, Q b e c → Q' b e c) (h : cmpW P Φ op d1 d2 env cs W Q) : cmpW P Ψ op d1 d2 env cs W' Q' := by
  unfold cmpW at h ⊢
  split at h
  · exact eqW_mono L hW hQ h
  · exact eqW_mono L hW (fun b => hQ (!b)) h
  · unfold inW at h ⊢
    split at h
    · split at h
      · exact phi_mono L (fun _ _ _ ⟨b, e, q⟩ => ⟨b, e, hQ _ _ _ q⟩) (fun _ _ z => hW _ _ _ z) h
      · exact h.elim
    · exact bK_mono (fun b q => hQ _ _ _ q) h
  · exact bK_mono (fun b q => hQ _ _ _ q) h
theorem binW_mono (L : Le Φ Ψ) {op : Operator} {d1 d2 : D} (hW : ∀ x e c, W x e c → W' x e c) (hQ : ∀ d fr e c, Q d fr e c → Q' d fr e c) (h : binW P Φ op d1 d2 env cs W Q) : binW P Ψ op d1 d2 env cs W' Q' := by
  unfold binW at h ⊢
  split at h
  · split at h
    · exact phi_mono L (fun _ _ _ q => hQ _ _ _ _ q) (fun _ _ z => hW _ _ _ z) h
    · exact h.elim
  · exact roK_mono (fun b _ q => hQ _ _ _ _ q) h
theorem subW_mono (L : Le Φ Ψ) {d1 d2 : D} (hW : ∀ x e c, W x e c → W' x e c) (hQ : ∀ d fr e c, Q d fr e c → Q' d fr e c) (h : subW P Φ d1 d2 env cs W Q) : subW P Ψ d1 d2 env cs W' Q' := by
  unfold subW at h ⊢
  cases h0 : insOf cs d1 with
  | some x =>
    simp only [h0] at h ⊢
    cases h1 : P.meth x.1 "__getitem__" with
    | none => simp only [h1] at h
    | some g => simp only [h1] at h ⊢; exact phi_mono L (fun _ _ _ q => hQ _ _ _ _ q) (fun _ _ z => hW _ _ _ z) h
  | none =>
    rw [h0] at h
    cases h1 : ixD (dv cs d1) d2 with
    | none => simp only [h1] at h
    | some d => simp only [h1] at h ⊢; exact hQ _ _ _ _ h
theorem fldW_mono (L : Le Φ Ψ) {d : D} {f : Str} (hQ : ∀ d fr e c, Q d fr e c → Q' d fr e c) (h : fldW P Φ d f env cs W Q) : fldW P Ψ d f env cs W' Q' := by
  unfold fldW at h ⊢
  cases h0 : insOf cs d with
  | none => rw [h0] at h; exact h.elim
  | some x =>
    obtain ⟨c, fs⟩ := x
    simp only [h0] at h ⊢
    cases h1 : P.prop c f with
    | some g => simp only [h1] at h ⊢; exact phi_mono L (fun _ _ _ q => hQ _ _ _ _ q) (fun _ _ z => z) h
    | none =>
      simp only [h1] at h ⊢
      cases h2 : fs.lookup f with
      | some v => simp only [h2] at h ⊢; exact ⟨h.1, hQ _ _ _ _ h.2⟩
      | none =>
        simp only [h2] at h ⊢
        cases h3 : P.con c f with
        | none => simp only [h3] at h
        | some v => simp only [h3] at h ⊢; exact hQ _ _ _ _ h
theorem mk_post {c a : Nat} {r : D} {cs' : CS} (hQ : ∀ d fr e c, Q d fr e c → Q' d fr e c) (h : r = .non ∧ match cs' a with
      | some (.ins c' fs) => c' = c ∧ Q (.ins c fs) false env (cdel cs' a)
      | _ => False) : r = .non ∧ match cs' a with
      | some (.ins c' fs) => c' = c ∧ Q' (.ins c fs) false env (cdel cs' a)
      | _ => False := by
  refine ⟨h.1, ?_⟩
  have h := h.2
  cases h1 : cs' a with
  | none => simp only [h1] at h
  | some o =>
    cases o with
    | ins c' fs => simp only [h1] at h ⊢; exact ⟨h.1, hQ _ _ _ _ h.2⟩
    | _ => simp only [h1] at h
theorem makeW_mono (L : Le Φ Ψ) {c f : Nat} {ds : List D} (hW : ∀ x e c, W x e c → W' x e c) (hQ : ∀ d fr e c, Q d fr e c → Q' d fr e c) (h : makeW P Φ c f ds env cs W Q) : makeW P Ψ c f ds env cs W' Q' :=
  fun a ha => phi_mono L (fun _ _ _ q => mk_post hQ q) (fun _ _ z => hW _ _ _ z) (h a ha)
theorem makekW_mono (L : Le Φ Ψ) {c f : Nat} {ds zs : List D} {kn : List Str} {perm : List Nat} (hW : ∀ x e c, W x e c → W' x e c) (hQ : ∀ d fr e c, Q d fr e c → Q' d fr e c) (h : makekW P Φ c f ds kn zs perm env cs W Q) : makekW P Ψ c f ds kn zs perm env cs W' Q' :=
  ⟨h.1, h.2.1, fun a ha => L _ _ _ (fun _ _ _ q => mk_post hQ q) (fun _ _ z => hW _ _ _ z) (h.2.2 a ha)⟩
theorem frzW_mono {i : Nat} (hQ : ∀ d fr e c, Q d fr e c → Q' d fr e c) (h : frzW i env cs Q) : frzW i env cs Q' := by
  unfold frzW at h ⊢
  split at h
  · split at h
    · exact hQ _ _ _ _ h
    · exact hQ _ _ _ _ h
    · exact h.elim
  · exact hQ _ _ _ _ h
  · exact h.elim
theorem ownW_mono {i : Nat} (hQ : ∀ d fr e c, Q d fr e c → Q' d fr e c) (h : ownW i env cs Q) : ownW i env cs Q' := by
  unfold ownW at h ⊢
  split at h
  · split at h
    · exact hQ _ _ _ _ h
    · exact hQ _ _ _ _ h
    · exact h.elim
  · exact h.elim
theorem appW_mono {a : Addr} {d : D} {k k' : CS → Prop} (hk : ∀ c, k c → k' c) (h : appW a d cs k) : appW a d cs k' := by
  unfold appW at h ⊢
  split at h
  · exact ⟨h.1, hk _ h.2⟩
  · exact h.elim
theorem setW_mono {o i d : D} {k k' : CS → Prop} (hk : ∀ c, k c → k' c) (h : setW o i d cs k) : setW o i d cs k' := by
  unfold setW at h ⊢
  split at h
  · split at h
    · split at h
      · exact hk _ h
      · exact h.elim
    · exact h.elim
  · exact h.elim
theorem sfW_mono {o d : D} {f : Str} {k k' : CS → Prop} (hk : ∀ c, k c → k' c) (h : sfW P o f d cs k) : sfW P o f d cs k' := by
  unfold sfW at h ⊢
  split at h
  · split at h
    · exact ⟨h.1, h.2.1, hk _ h.2.2⟩
    · exact h.elim
  · exact h.elim
theorem forL_mono {f f' : D → Env → CS → KT → Prop} (hf : ∀ d e c {k k' : KT}, (∀ e c, k e c → k' e c) → f d e c k → f' d e c k') : ∀ (its : List D) {env : Env} {cs : CS} {k k' : KT}, (∀ e c, k e c → k' e c) → forL f its env cs k → forL f' its env cs k'
  | [], _, _, _, _, hk, h => hk _ _ h
  | d :: ds, _, _, _, _, hk, h => hf d _ _ (fun _ _ q => forL_mono hf ds hk q) h
theorem whN_mono {c c' : Env → CS → (Bool → KT) → Prop} {b b' : Env → CS → KT → Prop} (hc : ∀ e s {Q Q' : Bool → KT}, (∀ k e s, Q k e s → Q' k e s) → c e s Q → c' e s Q') (hb : ∀ e s {k k' : KT}, (∀ e s, k e s → k' e s) → b e s k → b' e s k') {nx nx' : KT} (hn : ∀ e s, nx e s → nx' e s) :
    ∀ (n : Nat) {env : Env} {cs : CS}, whN c b nx n env cs → whN c' b' nx' n env cs
  | 0, _, _, h => h.elim
  | n + 1, _, _, h => hc _ _ (fun k e s q => by
      cases k with
      | true => rw [if_pos rfl] at q ⊢; exact hb _ _ (fun _ _ z => whN_mono hc hb hn n z) q
      | false => rw [if_neg Bool.false_ne_true] at q ⊢; exact hn _ _ q) h
end
theorem wpF_cons {P : Pg} {Φ : PhT} {e : Ex} {es : Exs} {acc : Str} {env : Env} {cs : CS} {W : WT} {Q : Str → Env → CS → Prop} (h : wpF P Φ (.cons e es) acc env cs W Q) : (∃ x, e = .str x) ∨ ∃ e', e = .bi .repr (.cons e' .nil) := by
  unfold wpF at h
  split at h
  all_goals first
    | (rename_i hq; cases hq; done)
    | skip
  · rename_i hq
    cases hq
    exact .inl ⟨_, rfl⟩
  · rename_i hq
    cases hq
    exact .inr ⟨_, rfl⟩
  · exact h.elim
section
variable {P : Pg} {Φ Ψ : PhT} (L : Le Φ Ψ)
include L
mutual
theorem mE : ∀ (e : Ex) {env : Env} {cs : CS} {W W' : WT} {Q Q' : QT}, (∀ x e c, W x e c → W' x e c) → (∀ d fr e c, Q d fr e c → Q' d fr e c) → wpE P Φ e env cs W Q → wpE P Ψ e env cs W' Q'
  | .var i, env, cs, W, W', Q, Q', hW, hQ, h => by
    simp only [wpE] at h ⊢
    split at h
    · exact hQ _ _ _ _ h
    · exact h.elim
  | .frz i, env, cs, W, W', Q, Q', hW, hQ, h => by
    simp only [wpE] at h ⊢; exact frzW_mono hQ h
  | .own i, env, cs, W, W', Q, Q', hW, hQ, h => by
    simp only [wpE] at h ⊢; exact ownW_mono hQ h
  | .non, env, cs, W, W', Q, Q', hW, hQ, h => by
    simp only [wpE] at h ⊢; exact hQ _ _ _ _ h
  | .bl _, env, cs, W, W', Q, Q', hW, hQ, h => by
    simp only [wpE] at h ⊢; exact hQ _ _ _ _ h
  | .int _, env, cs, W, W', Q, Q', hW, hQ, h => by
    simp only [wpE] at h ⊢; exact hQ _ _ _ _ h
  | .str _, env, cs, W, W', Q, Q', hW, hQ, h => by
    simp only [wpE] at h ⊢; exact hQ _ _ _ _ h
  | .bin op a b, env, cs, W, W', Q, Q', hW, hQ, h => by
    simp only [wpE] at h ⊢
    exact mE a hW (fun d1 _ _ _ q => mE b hW (fun d2 _ _ _ q => binW_mono L hW hQ q) q) h
  | .neg a, env, cs, W, W', Q, Q', hW, hQ, h => by
    simp only [wpE] at h ⊢
    exact mE a hW (fun d1 _ _ _ q => by
      split at q
      · exact hQ _ _ _ _ q
      · exact q.elim) h
  | .cmp op a b, env, cs, W, W', Q, Q', hW, hQ, h => by
    simp only [wpE] at h ⊢
    exact mE a hW (fun d1 _ _ _ q => mE b hW (fun d2 _ _ _ q => cmpW_mono L hW (fun _ _ _ q => hQ _ _ _ _ q) q) q) h
  | .chn o1 o2 a b c, env, cs, W, W', Q, Q', hW, hQ, h => by
    simp only [wpE] at h ⊢
    exact mE a hW (fun d1 _ _ _ q => mE b hW (fun d2 _ _ _ q => bK_mono (fun k q => by
      cases k with
      | true => rw [if_pos rfl] at q ⊢; exact mE c hW (fun d3 _ _ _ q => bK_mono (fun _ q => hQ _ _ _ _ q) q) q
      | false => rw [if_neg Bool.false_ne_true] at q ⊢; exact hQ _ _ _ _ q) q) q) h
  | .and a b, env, cs, W, W', Q, Q', hW, hQ, h => by
    simp only [wpE] at h ⊢
    exact mE a hW (fun d1 _ _ _ q => by
      split at q
      · exact mE b hW hQ q
      · exact hQ _ _ _ _ q
      · exact q.elim) h
  | .or a b, env, cs, W, W', Q, Q', hW, hQ, h => by
    simp only [wpE] at h ⊢
    exact mE a hW (fun d1 _ _ _ q => by
      split at q
      · exact hQ _ _ _ _ q
      · exact mE b hW hQ q
      · exact q.elim) h
  | .one a, env, cs, W, W', Q, Q', hW, hQ, h => by
    simp only [wpE] at h ⊢; exact mE a hW hQ h
  | .not a, env, cs, W, W', Q, Q', hW, hQ, h => by
    simp only [wpE] at h ⊢
    exact mE a hW (fun d1 _ _ _ q => by
      split at q
      · exact hQ _ _ _ _ q
      · exact q.elim) h
  | .ite c a b, env, cs, W, W', Q, Q', hW, hQ, h => by
    simp only [wpE] at h ⊢
    exact mT c hW (fun k _ _ q => by
      cases k with
      | true => rw [if_pos rfl] at q ⊢; exact mE a hW hQ q
      | false => rw [if_neg Bool.false_ne_true] at q ⊢; exact mE b hW hQ q) h
  | .lst es, env, cs, W, W', Q, Q', hW, hQ, h => by
    simp only [wpE] at h ⊢; exact mA es hW (fun _ _ _ q => ⟨q.1, hQ _ _ _ _ q.2⟩) h
  | .tup es, env, cs, W, W', Q, Q', hW, hQ, h => by
    simp only [wpE] at h ⊢; exact mA es hW (fun _ _ _ q => ⟨q.1, hQ _ _ _ _ q.2⟩) h
  | .sub a i, env, cs, W, W', Q, Q', hW, hQ, h => by
    simp only [wpE] at h ⊢
    exact mE a hW (fun d1 _ _ _ q => mE i hW (fun d2 _ _ _ q => subW_mono L hW hQ q) q) h
  | .slc a lo hi, env, cs, W, W', Q, Q', hW, hQ, h => by
    simp only [wpE] at h ⊢
    exact mE a hW (fun d1 _ _ _ q => mO lo hW (fun x _ _ q => mO hi hW (fun y _ _ q => roK_mono (fun _ _ q => hQ _ _ _ _ q) q) q) q) h
  | .call f es, env, cs, W, W', Q, Q', hW, hQ, h => by
    simp only [wpE] at h ⊢
    exact mA es hW (fun _ _ _ q => phi_mono L (fun _ _ _ q => hQ _ _ _ _ q) (fun _ _ z => hW _ _ _ z) q) h
  | .callk f es kn ks perm, env, cs, W, W', Q, Q', hW, hQ, h => by
    simp only [wpE] at h ⊢
    exact mA es hW (fun _ _ _ q => mA ks hW (fun _ _ _ q => ⟨q.1, q.2.1, L _ _ _ (fun _ _ _ q => hQ _ _ _ _ q) (fun _ _ z => hW _ _ _ z) q.2.2⟩) q) h
  | .make c f es, env, cs, W, W', Q, Q', hW, hQ, h => by
    simp only [wpE] at h ⊢; exact mA es hW (fun _ _ _ q => makeW_mono L hW hQ q) h
  | .makek c f es kn ks perm, env, cs, W, W', Q, Q', hW, hQ, h => by
    simp only [wpE] at h ⊢; exact mA es hW (fun _ _ _ q => mA ks hW (fun _ _ _ q => makekW_mono L hW hQ q) q) h
  | .stat c m f es, env, cs, W, W', Q, Q', hW, hQ, h => by
    simp only [wpE] at h ⊢
    exact mA es hW (fun _ _ _ q => phi_mono L (fun _ _ _ q => hQ _ _ _ _ q) (fun _ _ z => hW _ _ _ z) q) h
  | .statk c m f es kn ks perm, env, cs, W, W', Q, Q', hW, hQ, h => by
    simp only [wpE] at h ⊢
    exact mA es hW (fun _ _ _ q => mA ks hW (fun _ _ _ q => ⟨q.1, q.2.1, L _ _ _ (fun _ _ _ q => hQ _ _ _ _ q) (fun _ _ z => hW _ _ _ z) q.2.2⟩) q) h
  | .rev a, env, cs, W, W', Q, Q', hW, hQ, h => by
    simp only [wpE] at h ⊢
    exact mE a hW (fun d1 _ _ _ q => roK_mono (fun _ _ q => hQ _ _ _ _ q) q) h
  | .isi2 t u a, env, cs, W, W', Q, Q', hW, hQ, h => by
    simp only [wpE] at h ⊢
    exact mE a hW (fun d1 _ _ _ q => roK_mono (fun _ _ q => hQ _ _ _ _ q) q) h
  | .dic0, env, cs, W, W', Q, Q', hW, hQ, h => by
    simp only [wpE] at h ⊢; exact hQ _ _ _ _ h
  | .sset e, env, cs, W, W', Q, Q', hW, hQ, h => by
    simp only [wpE] at h ⊢
    exact mE e hW (fun d1 _ _ _ q => by
      split at q
      · exact ⟨q.1, fun ys h1 h2 h3 => hQ _ _ _ _ (q.2 ys h1 h2 h3)⟩
      · exact q.elim) h
  | .lrg e, env, cs, W, W', Q, Q', hW, hQ, h => by
    simp only [wpE] at h ⊢
    exact mE e hW (fun d1 _ _ _ q => by
      split at q
      · exact ⟨q.1, hQ _ _ _ _ q.2⟩
      · exact q.elim) h
  | .dic1 k i, env, cs, W, W', Q, Q', hW, hQ, h => by
    simp only [wpE] at h ⊢; exact hQ _ _ _ _ h
  | .mcall m o es, env, cs, W, W', Q, Q', hW, hQ, h => by
    simp only [wpE] at h ⊢
    exact mE o hW (fun d _ _ _ q => by
      split at q
      · exact mA es hW (fun _ _ _ q => phi_mono L (fun _ _ _ q => hQ _ _ _ _ q) (fun _ _ z => hW _ _ _ z) q) q
      · exact q.elim) h
  | .mcallk m o es kn ks perm, env, cs, W, W', Q, Q', hW, hQ, h => by
    simp only [wpE] at h ⊢
    exact mE o hW (fun d _ _ _ q => by
      split at q
      · exact mA es hW (fun _ _ _ q => mA ks hW (fun _ _ _ q => ⟨q.1, q.2.1, L _ _ _ (fun _ _ _ q => hQ _ _ _ _ q) (fun _ _ z => hW _ _ _ z) q.2.2⟩) q) q
      · exact q.elim) h
  | .fld o f, env, cs, W, W', Q, Q', hW, hQ, h => by
    simp only [wpE] at h ⊢; exact mE o hW (fun _ _ _ _ q => fldW_mono L hQ q) h
  | .ccon c f, env, cs, W, W', Q, Q', hW, hQ, h => by
    simp only [wpE] at h ⊢
    split at h
    · exact hQ _ _ _ _ h
    · exact h.elim
  | .bi b es, env, cs, W, W', Q, Q', hW, hQ, h => by
    simp only [wpE] at h ⊢; exact mA es hW (fun _ _ _ q => roK_mono (fun _ _ q => hQ _ _ _ _ q) q) h
  | .bm m o es, env, cs, W, W', Q, Q', hW, hQ, h => by
    simp only [wpE] at h ⊢
    exact mE o hW (fun d _ _ _ q => by
      split at q
      · exact mA es hW (fun _ _ _ q => roK_mono (fun _ _ q => hQ _ _ _ _ q) q) q
      · exact ⟨q.1, q.2.1, mA es hW (fun _ _ _ q => roK_mono (fun _ _ q => hQ _ _ _ _ q) q) q.2.2⟩) h
  | .lc own tg src cond elt, env, cs, W, W', Q, Q', hW, hQ, h => by
    simp only [wpE] at h ⊢
    refine mR src hW (fun its _ _ q a ha => forL_mono (fun d e c {k1 k2} hk q => ?_) its (fun e c q => ?_) (q a ha)) h
    · exact mG tg (fun _ _ _ z => z) (fun _ _ q => mC cond (fun _ _ _ z => z) (fun b _ _ q => by
        cases b with
        | true => rw [if_pos rfl] at q ⊢; exact mE elt (fun _ _ _ z => z) (fun _ _ _ _ q => appW_mono (fun _ q => hk _ _ q) q) q
        | false => rw [if_neg Bool.false_ne_true] at q ⊢; exact hk _ _ q) q) q
    · split at q
      · exact hQ _ _ _ _ q
      · exact q.elim
  | .fs es, env, cs, W, W', Q, Q', hW, hQ, h => by
    simp only [wpE] at h ⊢; exact mF es hW (fun _ _ _ q => hQ _ _ _ _ q) h
  | .new e, env, cs, W, W', Q, Q', hW, hQ, h => by
    simp only [wpE] at h ⊢
    exact mE e hW (fun d fr _ _ q => by
      split at q
      · exact fun a ha => hQ _ _ _ _ (q a ha)
      · exact fun a ha => hQ _ _ _ _ (q a ha)
      · exact q.elim) h
theorem mF : ∀ (es : Exs) {acc : Str} {env : Env} {cs : CS} {W W' : WT} {Q Q' : Str → Env → CS → Prop}, (∀ x e c, W x e c → W' x e c) → (∀ d e c, Q d e c → Q' d e c) → wpF P Φ es acc env cs W Q → wpF P Ψ es acc env cs W' Q'
  | .nil, acc, env, cs, W, W', Q, Q', hW, hQ, h => by
    simp only [wpF] at h ⊢; exact hQ _ _ _ h
  | .cons e es, acc, env, cs, W, W', Q, Q', hW, hQ, h => by
    rcases wpF_cons h with ⟨x, rfl⟩ | ⟨e', rfl⟩
    · simp only [wpF] at h ⊢; exact ⟨h.1, mF es hW hQ h.2⟩
    · simp only [wpF] at h ⊢
      exact mE e' hW (fun d _ _ _ q => by
        split at q
        · exact ⟨q.1, q.2.1, mF es hW hQ q.2.2⟩
        · exact q.elim) h
theorem mA : ∀ (es : Exs) {env : Env} {cs : CS} {W W' : WT} {Q Q' : QA}, (∀ x e c, W x e c → W' x e c) → (∀ d e c, Q d e c → Q' d e c) → wpA P Φ es env cs W Q → wpA P Ψ es env cs W' Q'
  | .nil, env, cs, W, W', Q, Q', hW, hQ, h => by
    simp only [wpA] at h ⊢; exact hQ _ _ _ h
  | .cons e es, env, cs, W, W', Q, Q', hW, hQ, h => by
    simp only [wpA] at h ⊢
    exact mE e hW (fun _ _ _ _ q => mA es hW (fun _ _ _ q => hQ _ _ _ q) q) h
theorem mO : ∀ (o : Ox) {env : Env} {cs : CS} {W W' : WT} {Q Q' : Option Int → Env → CS → Prop}, (∀ x e c, W x e c → W' x e c) → (∀ d e c, Q d e c → Q' d e c) → wpO P Φ o env cs W Q → wpO P Ψ o env cs W' Q'
  | .none, env, cs, W, W', Q, Q', hW, hQ, h => by
    simp only [wpO] at h ⊢; exact hQ _ _ _ h
  | .some e, env, cs, W, W', Q, Q', hW, hQ, h => by
    simp only [wpO] at h ⊢
    exact mE e hW (fun d _ _ _ q => by
      split at q
      · exact hQ _ _ _ q
      · exact q.elim) h
theorem mC : ∀ (c : Co) {env : Env} {cs : CS} {W W' : WT} {Q Q' : Bool → Env → CS → Prop}, (∀ x e c, W x e c → W' x e c) → (∀ d e c, Q d e c → Q' d e c) → wpC P Φ c env cs W Q → wpC P Ψ c env cs W' Q'
  | .none, env, cs, W, W', Q, Q', hW, hQ, h => by
    simp only [wpC] at h ⊢; exact hQ _ _ _ h
  | .some c, env, cs, W, W', Q, Q', hW, hQ, h => by
    simp only [wpC] at h ⊢; exact mT c hW hQ h
theorem mT : ∀ (c : Ct) {env : Env} {cs : CS} {W W' : WT} {Q Q' : Bool → Env → CS → Prop}, (∀ x e c, W x e c → W' x e c) → (∀ d e c, Q d e c → Q' d e c) → wpT P Φ c env cs W Q → wpT P Ψ c env cs W' Q'
  | .val e, env, cs, W, W', Q, Q', hW, hQ, h => by
    simp only [wpT] at h ⊢; exact mE e hW (fun _ _ _ _ q => bK_mono (fun _ q => hQ _ _ _ q) q) h
  | .and a b, env, cs, W, W', Q, Q', hW, hQ, h => by
    simp only [wpT] at h ⊢
    exact mT a hW (fun k _ _ q => by
      cases k with
      | true => rw [if_pos rfl] at q ⊢; exact mT b hW hQ q
      | false => rw [if_neg Bool.false_ne_true] at q ⊢; exact hQ _ _ _ q) h
  | .or a b, env, cs, W, W', Q, Q', hW, hQ, h => by
    simp only [wpT] at h ⊢
    exact mT a hW (fun k _ _ q => by
      cases k with
      | true => rw [if_pos rfl] at q ⊢; exact hQ _ _ _ q
      | false => rw [if_neg Bool.false_ne_true] at q ⊢; exact mT b hW hQ q) h
  | .one a, env, cs, W, W', Q, Q', hW, hQ, h => by
    simp only [wpT] at h ⊢; exact mT a hW hQ h
  | .not a, env, cs, W, W', Q, Q', hW, hQ, h => by
    simp only [wpT] at h ⊢; exact mT a hW (fun _ _ _ q => hQ _ _ _ q) h
theorem mG : ∀ (t : Tg) {d : D} {env : Env} {cs : CS} {W W' : WT} {k k' : KT}, (∀ x e c, W x e c → W' x e c) → (∀ e c, k e c → k' e c) → wpG P Φ t d env cs W k → wpG P Ψ t d env cs W' k'
  | .nm i, d, env, cs, W, W', k, k', hW, hk, h => by
    simp only [wpG] at h ⊢; exact hk _ _ h
  | .tup ts, d, env, cs, W, W', k, k', hW, hk, h => by
    simp only [wpG] at h ⊢
    split at h
    · exact ⟨h.1, mGs ts hW hk h.2⟩
    · exact h.elim
  | .sub o i, d, env, cs, W, W', k, k', hW, hk, h => by
    simp only [wpG] at h ⊢
    exact mE o hW (fun _ _ _ _ q => mE i hW (fun _ _ _ _ q => setW_mono (fun _ q => hk _ _ q) q) q) h
  | .fld o f, d, env, cs, W, W', k, k', hW, hk, h => by
    simp only [wpG] at h ⊢
    exact mE o hW (fun _ _ _ _ q => sfW_mono (fun _ q => hk _ _ q) q) h
theorem mGs : ∀ (ts : Tgs) {ds : List D} {env : Env} {cs : CS} {W W' : WT} {k k' : KT}, (∀ x e c, W x e c → W' x e c) → (∀ e c, k e c → k' e c) → wpGs P Φ ts ds env cs W k → wpGs P Ψ ts ds env cs W' k'
  | .nil, ds, env, cs, W, W', k, k', hW, hk, h => by
    cases ds with
    | nil => simp only [wpGs] at h ⊢; exact hk _ _ h
    | cons _ _ => simp only [wpGs] at h
  | .cons t ts, ds, env, cs, W, W', k, k', hW, hk, h => by
    cases ds with
    | nil => simp only [wpGs] at h
    | cons d ds => simp only [wpGs] at h ⊢; exact mG t hW (fun _ _ q => mGs ts hW hk q) h
theorem mR : ∀ (s : Sr) {env : Env} {cs : CS} {W W' : WT} {Q Q' : List D → Env → CS → Prop}, (∀ x e c, W x e c → W' x e c) → (∀ d e c, Q d e c → Q' d e c) → wpR P Φ s env cs W Q → wpR P Ψ s env cs W' Q'
  | .it e, env, cs, W, W', Q, Q', hW, hQ, h => by
    simp only [wpR] at h ⊢
    exact mE e hW (fun d _ _ _ q => by
      split at q
      · exact hQ _ _ _ q
      · exact q.elim) h
  | .rng1 e, env, cs, W, W', Q, Q', hW, hQ, h => by
    simp only [wpR] at h ⊢
    exact mE e hW (fun d _ _ _ q => by
      split at q
      · exact ⟨q.1, hQ _ _ _ q.2⟩
      · exact q.elim) h
  | .rng2 a b, env, cs, W, W', Q, Q', hW, hQ, h => by
    simp only [wpR] at h ⊢
    exact mE a hW (fun d1 _ _ _ q => mE b hW (fun d2 _ _ _ q => by
      split at q
      · exact ⟨q.1, hQ _ _ _ q.2⟩
      · exact q.elim) q) h
end
structure Kd.Le (k k' : Kd) : Prop where
  nx : ∀ e c, k.nx e c → k'.nx e c
  rt : ∀ d fr c, k.rt d fr c → k'.rt d fr c
  bk : ∀ e c, k.bk e c → k'.bk e c
  ct : ∀ e c, k.ct e c → k'.ct e c
mutual
theorem mS : ∀ (s : Sm) {env : Env} {cs : CS} {W W' : WT} {k k' : Kd}, (∀ x e c, W x e c → W' x e c) → Kd.Le k k' → wpS P Φ s env cs W k → wpS P Ψ s env cs W' k'
  | .pass, env, cs, W, W', k, k', hW, hk, h => by
    simp only [wpS] at h ⊢; exact hk.nx _ _ h
  | .brk, env, cs, W, W', k, k', hW, hk, h => by
    simp only [wpS] at h ⊢; exact hk.bk _ _ h
  | .cont, env, cs, W, W', k, k', hW, hk, h => by
    simp only [wpS] at h ⊢; exact hk.ct _ _ h
  | .expr e, env, cs, W, W', k, k', hW, hk, h => by
    simp only [wpS] at h ⊢; exact mE L e hW (fun _ _ _ _ q => hk.nx _ _ q) h
  | .app i e, env, cs, W, W', k, k', hW, hk, h => by
    simp only [wpS] at h ⊢
    split at h
    · exact ⟨h.1, mE L e hW (fun _ _ _ _ q => appW_mono (fun _ q => hk.nx _ _ q) q) h.2⟩
    · exact h.elim
  | .ret e, env, cs, W, W', k, k', hW, hk, h => by
    simp only [wpS] at h ⊢; exact mE L e hW (fun _ _ _ _ q => hk.rt _ _ _ q) h
  | .retN, env, cs, W, W', k, k', hW, hk, h => by
    simp only [wpS] at h ⊢; exact hk.rt _ _ _ h
  | .asg t e, env, cs, W, W', k, k', hW, hk, h => by
    simp only [wpS] at h ⊢; exact mE L e hW (fun _ _ _ _ q => mG L t hW hk.nx q) h
  | .par i j a b, env, cs, W, W', k, k', hW, hk, h => by
    simp only [wpS] at h ⊢
    exact mE L a hW (fun d _ e c q => mE L b hW (fun d2 _ e2 c2 q2 => hk.nx _ _ q2) q) h
  | .asgN i e, env, cs, W, W', k, k', hW, hk, h => by
    simp only [wpS] at h ⊢
    exact mE L e hW (fun d fr _ _ q => by
      split at q
      · exact fun a ha => hk.nx _ _ (q a ha)
      · exact fun a ha => hk.nx _ _ (q a ha)
      · exact q.elim) h
  | .ifs c a b, env, cs, W, W', k, k', hW, hk, h => by
    simp only [wpS] at h ⊢
    exact mT L c hW (fun t _ _ q => by
      cases t with
      | true => rw [if_pos rfl] at q ⊢; exact mB a hW hk q
      | false => rw [if_neg Bool.false_ne_true] at q ⊢; exact mB b hW hk q) h
  | .for_ t s body, env, cs, W, W', k, k', hW, hk, h => by
    simp only [wpS] at h ⊢
    exact mR L s hW (fun its _ _ q => forL_mono (fun d e c {k1 k2} hk1 q => mG L t hW (fun _ _ q => mB body hW (by exact ⟨hk1, hk.rt, hk.nx, hk1⟩) q) q) its hk.nx q) h
  | .while_ c body, env, cs, W, W', k, k', hW, hk, h => by
    simp only [wpS] at h ⊢
    obtain ⟨n, h⟩ := h
    exact ⟨n, whN_mono (c := fun env cs Q => wpT P Φ c env cs W Q) (c' := fun env cs Q => wpT P Ψ c env cs W' Q) (b := fun env cs k1 => wpB P Φ body env cs W { nx := k1, ct := k1, bk := k.nx, rt := k.rt }) (b' := fun env cs k1 => wpB P Ψ body env cs W' { nx := k1, ct := k1, bk := k'.nx, rt := k'.rt })
      (fun e s {Q Q'} hQ q => mT L c hW hQ q) (fun e s {k1 k2} hk1 q => mB body hW (k := { nx := k1, ct := k1, bk := k.nx, rt := k.rt }) (k' := { nx := k2, ct := k2, bk := k'.nx, rt := k'.rt }) (by exact ⟨hk1, hk.rt, hk.nx, hk1⟩) q) hk.nx n h⟩
  | .raise c f es, env, cs, W, W', k, k', hW, hk, h => by
    simp only [wpS] at h
  | .never, env, cs, W, W', k, k', hW, hk, h => by
    simp only [wpS] at h
theorem mB : ∀ (b : Sms) {env : Env} {cs : CS} {W W' : WT} {k k' : Kd}, (∀ x e c, W x e c → W' x e c) → Kd.Le k k' → wpB P Φ b env cs W k → wpB P Ψ b env cs W' k'
  | .nil, env, cs, W, W', k, k', hW, hk, h => by
    simp only [wpB] at h ⊢; exact hk.nx _ _ h
  | .cons s r, env, cs, W, W', k, k', hW, hk, h => by
    simp only [wpB] at h ⊢
    exact mS s hW (by exact ⟨fun _ _ q => mB r hW hk q, hk.rt, hk.bk, hk.ct⟩) h
end
end
end Dw
set_option Elab.async false
set_option linter.all false
set_option maxRecDepth 100000
set_option maxHeartbeats 4000000
namespace Dw
open PySem PySem.Spec PyProof.Rows L2
section
variable {P : Pg} {N : List Str} {Φ : PhT} {ca fa : Nat → Addr} {lv : Nat}
mutual
theorem sE (M : Mono Φ) : ∀ (ex : Ex) {sc : Scope} {e : Expr} {X : Cx}, chE P N sc ex e = true → Gd P N Φ ca fa lv X sc → ∀ {σ : L2.St} {H G : Hp} {env : Env} {cs : CS} {W : WT} {Q : QT}, Ok X.K ca G H cs → EnvR X.K ca G env σ → WOk X ca G W →
    wpE P Φ ex env cs W Q → WE X e σ H (PQ X ca G σ Q)
  | .var i, sc, e, X, hc, g, σ, H, G, env, cs, W, Q, ok, er, hW, h => by
    cases e with
    | Name x p =>
      simp only [chE, Bool.and_eq_true, decide_eq_true_eq] at hc
      simp only [wpE] at h
      split at h
      · rename_i d he
        exact we_name g hc.1 hc.2.1 hc.2.2 er he fun v _ r => PQ.mk ok er r h
      · exact h.elim
    | _ => exact nomatch hc
  | .frz i, sc, e, X, hc, g, σ, H, G, env, cs, W, Q, ok, er, hW, h => by
    cases e with
    | Name x p =>
      simp only [chE, Bool.and_eq_true, decide_eq_true_eq] at hc
      simp only [wpE, frzW] at h
      split at h
      · rename_i a he
        split at h
        · rename_i xs hx
          refine we_name g hc.1 hc.2.1 hc.2.2 er he fun v hv r => ?_
          cases r
          obtain ⟨h1, h2⟩ := ok.cel a _ hx
          obtain ⟨G', s', ok', r'⟩ := (ok.drop a).freezeOb h1 cdel_same h2
          exact ⟨G', _, _, _, _, s', ok', (er.mono s').tell hv r', r'.r, h⟩
        · rename_i xs hx
          refine we_name g hc.1 hc.2.1 hc.2.2 er he fun v hv r => ?_
          cases r
          obtain ⟨h1, h2⟩ := ok.cel a _ hx
          obtain ⟨G', s', ok', r'⟩ := (ok.drop a).freezeOb h1 cdel_same h2
          exact ⟨G', _, _, _, _, s', ok', (er.mono s').tell hv r', r'.r, h⟩
        · exact h.elim
      · rename_i d hd he
        exact we_name g hc.1 hc.2.1 hc.2.2 er he fun v _ r => PQ.mk ok er r h
      · exact h.elim
    | _ => exact nomatch hc
  | .own i, sc, e, X, hc, g, σ, H, G, env, cs, W, Q, ok, er, hW, h => by
    cases e with
    | Name x p =>
      simp only [chE, Bool.and_eq_true, decide_eq_true_eq] at hc
      simp only [wpE, ownW] at h
      split at h
      · rename_i a he
        split at h
        · rename_i xs hx
          refine we_name g hc.1 hc.2.1 hc.2.2 er he fun v hv r => ?_
          cases r
          obtain ⟨h1, h2⟩ := ok.cel a _ hx
          refine ⟨G, _, _, _, _, Same.refl _, ok.drop a, er.forget, ?_, h⟩
          unfold RepR; rw [if_pos rfl]
          exact ⟨a, _, rfl, rfl, h1, cdel_same, h2⟩
        · rename_i xs hx
          refine we_name g hc.1 hc.2.1 hc.2.2 er he fun v hv r => ?_
          cases r
          obtain ⟨h1, h2⟩ := ok.cel a _ hx
          refine ⟨G, _, _, _, _, Same.refl _, ok.drop a, er.forget, ?_, h⟩
          unfold RepR; rw [if_pos rfl]
          exact ⟨a, _, rfl, rfl, h1, cdel_same, h2⟩
        · exact h.elim
      · exact h.elim
    | _ => exact nomatch hc
  | .non, sc, e, X, hc, g, σ, H, G, env, cs, W, Q, ok, er, hW, h => by
    cases e with
    | Constant c k p => cases c with
      | none => simp only [wpE] at h; exact (pe_non (X := X)).we (PQ.mk ok er .non h)
      | _ => exact nomatch hc
    | _ => exact nomatch hc
  | .bl b, sc, e, X, hc, g, σ, H, G, env, cs, W, Q, ok, er, hW, h => by
    cases e with
    | Constant c k p => cases c with
      | bool b' =>
        simp only [chE, decide_eq_true_eq] at hc
        subst hc
        simp only [wpE] at h; exact (pe_bl (X := X)).we (PQ.mk ok er (.bl _) h)
      | _ => exact nomatch hc
    | _ => exact nomatch hc
  | .int b, sc, e, X, hc, g, σ, H, G, env, cs, W, Q, ok, er, hW, h => by
    cases e with
    | Constant c k p => cases c with
      | int b' =>
        simp only [chE, decide_eq_true_eq] at hc
        subst hc
        simp only [wpE] at h; exact (pe_int (X := X)).we (PQ.mk ok er (.int _) h)
      | _ => exact nomatch hc
    | _ => exact nomatch hc
  | .str b, sc, e, X, hc, g, σ, H, G, env, cs, W, Q, ok, er, hW, h => by
    cases e with
    | Constant c k p => cases c with
      | str b' =>
        simp only [chE, decide_eq_true_eq] at hc
        subst hc
        simp only [wpE] at h; exact (pe_str (X := X)).we (PQ.mk ok er (.str _) h)
      | _ => exact nomatch hc
    | _ => exact nomatch hc
  | .bin op a b, sc, e, X, hc, g, σ, H, G, env, cs, W, Q, ok, er, hW, h => by
    cases e with
    | BinOp l op' r p =>
      simp only [chE, Bool.and_eq_true, decide_eq_true_eq] at hc
      obtain ⟨rfl, c1, c2⟩ := hc
      simp only [wpE] at h
      refine we_bin ((sE M a c1 g ok er hW h).mono fun v1 H1 q1 => ?_)
      obtain ⟨G1, env1, cs1, d1, s1, ok1, er1, r1, h1⟩ := q1.tree
      refine (sE M b c2 g ok1 er1 (hW.mono s1) h1).mono fun v2 H2 q2 => ?_
      obtain ⟨G2, env2, cs2, d2, s2, ok2, er2, r2, h2⟩ := q2.tree
      have r1' := r1.mono s2
      unfold binW at h2
      split at h2
      · rename_i c fs hi
        split at h2
        · rename_i z gi hm
          intro pins s v u I rx ry
          exact thn (radd_own g M ok2 er2 I r1' r2 rx ry hi hm (hW.mono (s1.trans s2)) h2) fun _ _ ⟨w, H', a, b, q⟩ => ⟨w, H', a, b, q.lift (s1.trans s2)⟩
        · exact h2.elim
      · intro pins s v u I rx ry
        exact thn (binop_ok ok2 er2 (dv_rep ok2 r1') (dv_rep ok2 r2) h2 pins s v u I rx ry) fun _ _ ⟨w, H', a, b, q⟩ => ⟨w, H', a, b, q.lift (s1.trans s2)⟩
    | _ => exact nomatch hc
  | .neg a, sc, e, X, hc, g, σ, H, G, env, cs, W, Q, ok, er, hW, h => by
    cases e with
    | UnaryOp op l p => cases op with
      | USub =>
        simp only [chE] at hc
        simp only [wpE] at h
        refine (pe_un (X := X) un_neg (pWE l)).we ((sE M a hc g ok er hW h).mono fun v1 H1 q1 => ?_)
        obtain ⟨G1, env1, cs1, d1, s1, ok1, er1, r1, h1⟩ := q1.tree
        split at h1
        · cases r1
          exact ⟨_, rfl, (PQ.mk ok1 er1 (.int _) h1).lift s1⟩
        · exact h1.elim
      | _ => exact nomatch hc
    | _ => exact nomatch hc
  | .cmp op a b, sc, e, X, hc, g, σ, H, G, env, cs, W, Q, ok, er, hW, h => by
    cases e with
    | Compare l ops rs p =>
      obtain ⟨op', r, rfl, rfl⟩ : ∃ op' r, ops = [op'] ∧ rs = [r] := by
        cases ops with
        | nil => exact nomatch hc
        | cons o1 ol => cases ol with
          | cons _ _ => cases rs with
            | nil => exact nomatch hc
            | cons r1 rl => cases rl <;> exact nomatch hc
          | nil => cases rs with
            | nil => exact nomatch hc
            | cons r1 rl => cases rl with
              | nil => exact ⟨o1, r1, rfl, rfl⟩
              | cons _ _ => exact nomatch hc
      simp only [chE, Bool.and_eq_true, decide_eq_true_eq] at hc
      obtain ⟨rfl, c0, c1, c2⟩ := hc
      simp only [wpE] at h
      refine we_cmp c0 ((sE M a c1 g ok er hW h).mono fun v1 H1 q1 => ?_)
      obtain ⟨G1, env1, cs1, d1, s1, ok1, er1, r1, h1⟩ := q1.tree
      refine (sE M b c2 g ok1 er1 (hW.mono s1) h1).mono fun v2 H2 q2 => ?_
      obtain ⟨G2, env2, cs2, d2, s2, ok2, er2, r2, h2⟩ := q2.tree
      have r1' := r1.mono s2
      intro pins s v u I rx ry
      refine thn (cmpW_ok g M ok2 er2 r1' r2 (hW.mono (s1.trans s2)) h2 pins s v u I rx ry) fun _ _ ⟨w, H', a, b, k, e1, G3, env3, cs3, s3, ok3, er3, q⟩ => ⟨w, H', a, b, ?_⟩
      rw [e1]
      exact (PQ.mk ok3 er3 (.bl _) q).lift ((s1.trans s2).trans s3)
    | _ => exact nomatch hc
  | .chn o1 o2 a b c, sc, e, X, hc, g, σ, H, G, env, cs, W, Q, ok, er, hW, h => by
    cases e with
    | Compare l ops rs p =>
      obtain ⟨p1, p2, r, t, rfl, rfl⟩ : ∃ p1 p2 r t, ops = [p1, p2] ∧ rs = [r, t] := by
        match ops, rs, hc with
        | [p1, p2], [r, t], _ => exact ⟨p1, p2, r, t, rfl, rfl⟩
      simp only [chE, Bool.and_eq_true, decide_eq_true_eq] at hc
      obtain ⟨rfl, rfl, c0, c1, c2, c3⟩ := hc
      simp only [wpE] at h
      intro pins s I
      refine Compare_chain (thn ((sE M a c1 g ok er hW h) pins s I) fun v s1 ⟨x, H1, I1, r1, q1⟩ => ?_) (lastMark2 c0)
      obtain ⟨G1, env1, cs1, d1, t1, ok1, er1, w1, h1⟩ := q1.tree
      refine chain_link (thn ((sE M b c2 g ok1 er1 (hW.mono t1) h1) pins s1 I1) fun u s2 ⟨y, H2, I2, r2, q2⟩ => ?_)
      obtain ⟨G2, env2, cs2, d2, t2, ok2, er2, w2, h2⟩ := q2.tree
      refine thn (cmpop_ok (R := fun k H' => if k = true then wpE P Φ c env2 cs2 W (fun d3 _ env3 cs3 => bK (cmpop o2 (dv cs3 d2) (dv cs3 d3)) fun k2 => Q (.bl k2) false env3 cs3) ∧ H' = H2 else Q (.bl false) false env2 cs2 ∧ H' = H2) (by have := g.room.units; omega) ok2.sub (dv_rep ok2 (w1.mono t2)) (dv_rep ok2 w2) h2 (fun k q => by
        cases k with
        | true => rw [if_pos rfl] at q ⊢; exact ⟨q, rfl⟩
        | false => rw [if_neg Bool.false_ne_true] at q ⊢; exact ⟨q, rfl⟩) pins s2 v u I2 r1 r2) fun d s3 ⟨z, H3, I3, r3, k, e, q3⟩ => ?_
      subst e
      cases r3
      refine wpAny_truthy_bool ?_
      cases k with
      | false =>
        rw [if_neg Bool.false_ne_true] at q3
        obtain ⟨q3, rfl⟩ := q3
        exact ite_ff ⟨.bl false, _, I3, rfl, (PQ.mk ok2 er2 (.bl _) q3).lift (t1.trans t2)⟩
      | true =>
        rw [if_pos rfl] at q3
        obtain ⟨q3, rfl⟩ := q3
        refine ite_tt (chain_last (thn ((sE M c c3 g ok2 er2 (hW.mono (t1.trans t2)) q3) pins s3 I3) fun w' s4 ⟨z', H4, I4, r4, q4⟩ => ?_))
        obtain ⟨G4, env4, cs4, d4, t4, ok4, er4, w4, h4⟩ := q4.tree
        refine thn (cmpop_ok (R := fun b H' => PQ X ca G σ Q (.bl b) H') (by have := g.room.units; omega) ok4.sub (dv_rep ok4 (w2.mono t4)) (dv_rep ok4 w4) h4 (fun b q => (PQ.mk ok4 er4 (.bl _) q).lift ((t1.trans t2).trans t4)) pins s4 u w' I4 r2 r4) fun _ _ ⟨w, H', a, b, k, e1, q⟩ => ⟨w, H', a, b, ?_⟩
        rw [e1]; exact q
    | _ => exact nomatch hc
  | .and a b, sc, e, X, hc, g, σ, H, G, env, cs, W, Q, ok, er, hW, h => by
    cases e with
    | BoolOp op l p =>
      cases op with
      | Or => exact nomatch hc
      | And =>
        match l, hc with
        | e1 :: e2 :: r, hc =>
          simp only [chE, Bool.and_eq_true] at hc
          simp only [wpE] at h
          refine (pe_and (X := X) (pWE e1) (pWE (.BoolOp .And (e2 :: r) p))).we ((sE M a hc.1 g ok er hW h).mono fun v1 H1 q1 => ?_)
          obtain ⟨G1, env1, cs1, d1, t1, ok1, er1, w1, h1⟩ := q1.tree
          split at h1
          · cases w1
            exact ⟨true, rfl, iteT ((sE M b hc.2 g ok1 er1 (hW.mono t1) h1).mono fun v2 H2 q2 => q2.lift t1)⟩
          · cases w1
            exact ⟨false, rfl, iteF ((PQ.mk ok1 er1 (.bl _) h1).lift t1)⟩
          · exact h1.elim
    | _ => exact nomatch hc
  | .or a b, sc, e, X, hc, g, σ, H, G, env, cs, W, Q, ok, er, hW, h => by
    cases e with
    | BoolOp op l p =>
      cases op with
      | And => exact nomatch hc
      | Or =>
        match l, hc with
        | e1 :: e2 :: r, hc =>
          simp only [chE, Bool.and_eq_true] at hc
          simp only [wpE] at h
          refine (pe_or (X := X) (pWE e1) (pWE (.BoolOp .Or (e2 :: r) p))).we ((sE M a hc.1 g ok er hW h).mono fun v1 H1 q1 => ?_)
          obtain ⟨G1, env1, cs1, d1, t1, ok1, er1, w1, h1⟩ := q1.tree
          split at h1
          · cases w1
            exact ⟨true, rfl, iteT ((PQ.mk ok1 er1 (.bl _) h1).lift t1)⟩
          · cases w1
            exact ⟨false, rfl, iteF ((sE M b hc.2 g ok1 er1 (hW.mono t1) h1).mono fun v2 H2 q2 => q2.lift t1)⟩
          · exact h1.elim
    | _ => exact nomatch hc
  | .one a, sc, e, X, hc, g, σ, H, G, env, cs, W, Q, ok, er, hW, h => by
    cases e with
    | BoolOp op l p =>
      match l, hc with
      | [e1], hc =>
        simp only [chE] at hc
        simp only [wpE] at h
        exact (pe_one (X := X) (pWE e1)).we (sE M a hc g ok er hW h)
    | _ => exact nomatch hc
  | .not a, sc, e, X, hc, g, σ, H, G, env, cs, W, Q, ok, er, hW, h => by
    cases e with
    | UnaryOp op l p => cases op with
      | Not =>
        simp only [chE] at hc
        simp only [wpE] at h
        refine (pe_not (X := X) (pWE l)).we ((sE M a hc g ok er hW h).mono fun v1 H1 q1 => ?_)
        obtain ⟨G1, env1, cs1, d1, s1, ok1, er1, r1, h1⟩ := q1.tree
        split at h1
        · cases r1
          exact ⟨_, rfl, (PQ.mk ok1 er1 (.bl _) h1).lift s1⟩
        · exact h1.elim
      | _ => exact nomatch hc
    | _ => exact nomatch hc
  | .ite c a b, sc, e, X, hc, g, σ, H, G, env, cs, W, Q, ok, er, hW, h => by
    cases e with
    | IfExp t e1 e2 p =>
      simp only [chE, Bool.and_eq_true] at hc
      simp only [wpE] at h
      refine (pe_ifExp (X := X) (pWT t) (pWE e1) (pWE e2)).we (WT.mono (sT M c hc.1 g ok er hW h).1 fun k H1 q1 => ?_)
      obtain ⟨G1, env1, cs1, t1, ok1, er1, h1⟩ := q1
      cases k with
      | true =>
        rw [if_pos rfl] at h1 ⊢
        exact (sE M a hc.2.1 g ok1 er1 (hW.mono t1) h1).mono fun v2 H2 q2 => q2.lift t1
      | false =>
        rw [if_neg Bool.false_ne_true] at h1 ⊢
        exact (sE M b hc.2.2 g ok1 er1 (hW.mono t1) h1).mono fun v2 H2 q2 => q2.lift t1
    | _ => exact nomatch hc
  | .lst es, sc, e, X, hc, g, σ, H, G, env, cs, W, Q, ok, er, hW, h => by
    cases e with
    | List l p =>
      simp only [chE] at hc
      simp only [wpE] at h
      refine (pe_lst (X := X) (pWA l)).we (((sA M es hc g ok er hW h).2).mono fun vs H1 q1 => ?_)
      obtain ⟨G1, env1, cs1, ds, t1, ok1, er1, r1, h1, h2⟩ := q1
      exact ⟨by rw [← r1.length]; exact h1, fun p hp => (PQ.newL ok1 er1 hp r1 h2).lift t1⟩
    | _ => exact nomatch hc
  | .tup es, sc, e, X, hc, g, σ, H, G, env, cs, W, Q, ok, er, hW, h => by
    cases e with
    | Tuple l k p =>
      simp only [chE] at hc
      simp only [wpE] at h
      refine (pe_tup (X := X) (pWA l)).we (((sA M es hc g ok er hW h).2).mono fun vs H1 q1 => ?_)
      obtain ⟨G1, env1, cs1, ds, t1, ok1, er1, r1, h1, h2⟩ := q1
      exact ⟨by rw [← r1.length]; exact h1, fun p hp => (PQ.newT ok1 er1 hp r1 h2).lift t1⟩
    | _ => exact nomatch hc
  | .sub a i, sc, e, X, hc, g, σ, H, G, env, cs, W, Q, ok, er, hW, h => by
    cases e with
    | Subscript l r p =>
      simp only [chE, Bool.and_eq_true] at hc
      obtain ⟨c0, c1, c2⟩ := hc
      simp only [wpE] at h
      refine we_ix ((sE M a c1 g ok er hW h).mono fun v1 H1 q1 => ?_)
      obtain ⟨G1, env1, cs1, d1, s1, ok1, er1, r1, h1⟩ := q1.tree
      refine (sE M i c2 g ok1 er1 (hW.mono s1) h1).mono fun v2 H2 q2 => ?_
      obtain ⟨G2, env2, cs2, d2, s2, ok2, er2, r2, h2⟩ := q2.tree
      intro pins s v u I rx ry
      unfold subW at h2
      split at h2
      · rename_i c fs hi
        split at h2
        · rename_i gi hm
          obtain ⟨_, fi, hfi⟩ := g.fx.meth c _ gi hm
          exact thn (sub_own g M ok2 er2 I (r1.mono s2) r2 rx ry hi hm (g.fx.fin gi fi hfi) c0 (hW.mono (s1.trans s2)) h2) fun _ _ ⟨w, H', a, b, q⟩ => ⟨w, H', a, b, q.lift (s1.trans s2)⟩
        · exact h2.elim
      · split at h2
        · rename_i d e
          exact thn (ix_ok (plainIx_of c0) ok2 er2 (dv_rep ok2 (r1.mono s2)) r2 e h2 I rx ry) fun _ _ ⟨w, H', a, b, q⟩ => ⟨w, H', a, b, q.lift (s1.trans s2)⟩
        · exact h2.elim
    | _ => exact nomatch hc
  | .slc a lo hi, sc, e, X, hc, g, σ, H, G, env, cs, W, Q, ok, er, hW, h => by
    cases e with
    | Subscript l r p =>
      cases r with
      | Slice x y z p2 =>
        cases z with
        | some _ => exact nomatch hc
        | none =>
          simp only [chE, Bool.and_eq_true] at hc
          obtain ⟨c1, c2, c3⟩ := hc
          simp only [wpE] at h
          intro pins s I
          refine Subscript_ (thn ((sE M a c1 g ok er hW h) pins s I) fun v s1 ⟨x1, H1, I1, r1, q1⟩ => ?_)
          obtain ⟨G1, env1, cs1, d1, t1, ok1, er1, w1, h1⟩ := q1.tree
          refine wpAny_Slice (thn ((sO M lo c2 g ok1 er1 (hW.mono t1) h1) pins s1 I1) fun vl s2 ⟨o2, H2, I2, pl, q2⟩ => ?_)
          obtain ⟨G2, env2, cs2, t2, ok2, er2, h2⟩ := q2
          refine thn ((sO M hi c3 g ok2 er2 (hW.mono (t1.trans t2)) h2) pins s2 I2) fun vu s3 ⟨o3, H3, I3, pu, q3⟩ => ?_
          obtain ⟨G3, env3, cs3, t3, ok3, er3, h3⟩ := q3
          rw [evalPart_none]
          refine wpAny_pure ?_
          have I4 : Inv X pins σ H3 { s3 with heap := s3.heap.push { cls := .type "slice", data := .fields #[vl, vu, .none] } } := I3.kept (t' := s3.toks) fun b ob q => Heap.get?_push_of_some _ q
          obtain ⟨T, id, hT, ht, hg⟩ := sl_ok ok3 er3 (dv_rep ok3 (w1.mono (t2.trans t3))) h3 I4 r1 (Heap.IsSliceOf.new ..) pl pu
          show wpAny (model X.prog X.w) X.A (subscriptTail l (.Slice x y none p2) v (.ref s3.heap.objs.size)) (EP X pins σ (PQ X ca G σ Q)) X.xe { s3 with heap := s3.heap.push { cls := .type "slice", data := .fields #[vl, vu, .none] } }
          refine tail_any (ops := [.ref s3.heap.objs.size, v]) ht hT (thn hg fun _ _ ⟨w, H', a, b, q⟩ => ⟨w, H', a, b, q.lift ((t1.trans t2).trans t3)⟩) (by with_unfolding_all rfl)
      | _ => exact nomatch hc
    | _ => exact nomatch hc
  | .call f es, sc, e, X, hc, g, σ, H, G, env, cs, W, Q, ok, er, hW, h => by
    cases e with
    | Call fn l kws p =>
      match fn, kws, hc with
      | .Name x q, [], hc =>
        simp only [chE, Bool.and_eq_true] at hc
        simp only [wpE] at h
        obtain ⟨n1, n2, n3⟩ := gname_fn hc.1
        obtain ⟨⟨fi, hf⟩, hm, hk⟩ := g.fx.gfn x f n3
        intro pins s I
        refine wpAny_Call_Name_kw (ld_glob I (g.gl n1) hm ?_ n2)
        refine call_args (kws := []) (first := []) hk (chA_len hc.2) rfl I ?_
        refine wan_mono (sA M es hc.2 g ok er hW h) fun vs H' ⟨G1, env1, cs1, ds, t1, ok1, er1, r1, h1⟩ => ?_
        refine (pk_nil (X := X)).wk ?_
        intro s us ws I rv rz
        exact thn (run_phi g M I rv ok1 er1 r1 (hW.mono t1) h1) fun _ _ ⟨w, H', a, b, q⟩ => ⟨w, H', a, b, q.lift t1⟩
    | _ => exact nomatch hc
  | .callk f es kn ks perm, sc, e, X, hc, g, σ, H, G, env, cs, W, Q, ok, er, hW, h => by
    cases e with
    | Call fn l kws p =>
      match fn, hc with
      | .Name x q, hc =>
        simp only [chE, Bool.and_eq_true, decide_eq_true_eq] at hc
        obtain ⟨c0, rfl, c1, c2⟩ := hc
        simp only [wpE] at h
        obtain ⟨n1, n2, n3⟩ := gname_fn c0
        obtain ⟨_, hm, hk⟩ := g.fx.gfn x f n3
        intro pins s I
        refine wpAny_Call_Name_kw (ld_glob I (g.gl n1) hm ?_ n2)
        refine call_args (first := []) hk (chA_len c1) (chK_all c2) I ?_
        refine wan_mono (sA M es c1 g ok er hW h) fun vs H' ⟨G1, env1, cs1, ds, t1, ok1, er1, r1, h1⟩ => ?_
        refine (sK M ks c2 g ok1 er1 (hW.mono t1) h1).mono fun zs H2 ⟨G2, env2, cs2, es2, t2, ok2, er2, r2, k1, k2, h2⟩ => ?_
        intro s us ws I rv rz
        obtain ⟨fi, hf, hk⟩ := kwB_of k1
        exact thn (run_kw g M hf hk I rv rz ((r1.mono t2).len2 rv) ((r2.len2 rz).trans k2) ok2 er2 (r1.mono t2) r2 (hW.mono (t1.trans t2)) h2) fun _ _ ⟨w, H', a, b, q⟩ => ⟨w, H', a, b, q.lift (t1.trans t2)⟩
    | _ => exact nomatch hc
  | .make c f es, sc, e, X, hc, g, σ, H, G, env, cs, W, Q, ok, er, hW, h => by
    cases e with
    | Call fn l kws p =>
      match fn, kws, hc with
      | .Name x q, [], hc =>
        simp only [chE, Bool.and_eq_true, decide_eq_true_eq] at hc
        obtain ⟨c0, ci, c1⟩ := hc
        simp only [wpE] at h
        obtain ⟨n1, n2, n3⟩ := gname_cl c0
        intro pins s I
        refine wpAny_Call_Name_kw (ld_glob I (g.gl n1) (g.fx.gcl x c n3) ?_ n2)
        refine call_args (kws := []) (first := []) (g.fx.mkr c f ci).1.kp (chA_len c1) rfl I ?_
        refine wan_mono (sA M es c1 g ok er hW h) fun vs H' ⟨G1, env1, cs1, ds, t1, ok1, er1, r1, h1⟩ => ?_
        refine (pk_nil (X := X)).wk ?_
        intro s us ws I rv rz
        cases rz
        refine thn (run_mk (kn := []) (ws := []) (vs2 := fun a => .ref a :: us) (dd := fun a => .cell a :: ds) (vv := fun a => .ref a :: vs) g M ci I ok1 er1 (hW.mono t1) (fun fi fd hf b1 _ a s' k => ?_) (fun a => .cons rfl rv) (fun a => .cons (.cell a) r1) fun a hn => (h1 a hn).2) fun _ _ ⟨w, H', a, b, q⟩ => ⟨w, H', a, b, q.lift t1⟩
        have ha := (h1 (s.heap.objs.size + 1) (ok1.noC (I.hok.fresh (Nat.le_succ _)))).1
        unfold Pg.ar at ha
        rw [hf] at ha
        have ha : fi.ps.length = ds.length + 1 := Option.some.inj ha
        refine ⟨b1 s' _ k ?_, ?_⟩
        · show us.length + 1 = _
          rw [ha, r1.len2 rv]
        · show ds.length + 1 = _
          rw [ha]
    | _ => exact nomatch hc
  | .makek c f es kn ks perm, sc, e, X, hc, g, σ, H, G, env, cs, W, Q, ok, er, hW, h => by
    cases e with
    | Call fn l kws p =>
      match fn, hc with
      | .Name x q, hc =>
        simp only [chE, Bool.and_eq_true, decide_eq_true_eq] at hc
        obtain ⟨c0, ci, rfl, c1, c2⟩ := hc
        simp only [wpE] at h
        obtain ⟨n1, n2, n3⟩ := gname_cl c0
        intro pins s I
        refine wpAny_Call_Name_kw (ld_glob I (g.gl n1) (g.fx.gcl x c n3) ?_ n2)
        refine call_args (first := []) (g.fx.mkr c f ci).1.kp (chA_len c1) (chK_all c2) I ?_
        refine wan_mono (sA M es c1 g ok er hW h) fun vs H' ⟨G1, env1, cs1, ds, t1, ok1, er1, r1, h1⟩ => ?_
        refine (sK M ks c2 g ok1 er1 (hW.mono t1) h1).mono fun zs H2 ⟨G2, env2, cs2, es2, t2, ok2, er2, r2, k1, k2, h2⟩ => ?_
        intro s us ws I rv rz
        obtain ⟨fi', hf', hk⟩ := kwB_of k1
        refine thn (run_mk (vs2 := fun a => arr perm ((.ref a :: us) ++ ws)) (dd := fun a => arr perm ((.cell a :: ds) ++ es2)) (vv := fun a => arr perm ((.ref a :: vs) ++ zs)) g M ci I ok2 er2 (hW.mono (t1.trans t2)) (fun fi fd hf _ b2 a s' k => ?_) (fun a => vals_arr (show Vals ((V.ref a :: vs) ++ zs) ((Value.ref a :: us) ++ ws) from .cons rfl (rv.append rz)) perm) (fun a => (show RepL X.K ca G2 ((D.cell a :: ds) ++ es2) ((V.ref a :: vs) ++ zs) from .cons (.cell a) ((r1.mono t2).append r2)).arr perm) fun a hn => h2 a hn) fun _ _ ⟨w, H', a, b, q⟩ => ⟨w, H', a, b, q.lift (t1.trans t2)⟩
        rw [hf'] at hf
        cases hf
        obtain ⟨p1, p2, p3⟩ := b2 _ _ _ hk
        refine ⟨p3 s' (.ref a :: us) ws k ?_ ((r2.len2 rz).trans k2), ?_⟩
        · rw [List.length_cons, (r1.mono t2).len2 rv]
        · rw [arr_length, p1]
          intro j hj
          have := p2 j hj
          rw [List.length_append, List.length_cons, k2]; exact this
    | _ => exact nomatch hc
  | .stat c m f es, sc, e, X, hc, g, σ, H, G, env, cs, W, Q, ok, er, hW, h => by
    cases e with
    | Call fn l kws p =>
      match fn, kws, hc with
      | .Attribute (.Name x q) m' ap, [], hc =>
        simp only [chE, Bool.and_eq_true, decide_eq_true_eq] at hc
        obtain ⟨c0, rfl, cs1, c1, c2, c3⟩ := hc
        simp only [wpE] at h
        obtain ⟨n1, n2, n3⟩ := gname_cl c0
        obtain ⟨⟨mc, pp, rd, sm⟩, hk⟩ := g.fx.sta c m f cs1
        intro pins s I
        refine PySem.W.methodCall_KW (pl := _) (ld_glob I (g.gl n1) (g.fx.gcl x c n3) ?_ n2) (methCall_eq rfl (form_of (chA_len c3) rfl c2) c1)
        refine getsmet_ok I rd sm fun s1 I1 => ?_
        refine call_args (kws := []) (first := []) hk (chA_len c3) rfl I1 ?_
        refine wan_mono (sA M es c3 g ok er hW h) fun vs H' ⟨G1, env1, cs1, ds, t1, ok1, er1, r1, h1⟩ => ?_
        refine (pk_nil (X := X)).wk ?_
        intro s us ws I rv rz
        exact thn (run_phi g M I rv ok1 er1 r1 (hW.mono t1) h1) fun _ _ ⟨w, H', a, b, q⟩ => ⟨w, H', a, b, q.lift t1⟩
    | _ => exact nomatch hc
  | .statk c m f es kn ks perm, sc, e, X, hc, g, σ, H, G, env, cs, W, Q, ok, er, hW, h => by
    cases e with
    | Call fn l kws p =>
      match fn, hc with
      | .Attribute (.Name x q) m' ap, hc =>
        simp only [chE, Bool.and_eq_true, decide_eq_true_eq] at hc
        obtain ⟨c0, rfl, cs1, rfl, c1, c2, c3, c4⟩ := hc
        simp only [wpE] at h
        obtain ⟨n1, n2, n3⟩ := gname_cl c0
        obtain ⟨⟨mc, pp, rd, sm⟩, hk0⟩ := g.fx.sta c m f cs1
        intro pins s I
        refine PySem.W.methodCall_KW (pl := _) (ld_glob I (g.gl n1) (g.fx.gcl x c n3) ?_ n2) (methCall_eq rfl (form_of (chA_len c3) (chK_all c4) c2) c1)
        refine getsmet_ok I rd sm fun s1 I1 => ?_
        refine call_args (first := []) hk0 (chA_len c3) (chK_all c4) I1 ?_
        refine wan_mono (sA M es c3 g ok er hW h) fun vs H' ⟨G1, env1, cs1, ds, t1, ok1, er1, r1, h1⟩ => ?_
        refine (sK M ks c4 g ok1 er1 (hW.mono t1) h1).mono fun zs H2 ⟨G2, env2, cs2, es2, t2, ok2, er2, r2, k1, k2, h2⟩ => ?_
        intro s us ws I rv rz
        obtain ⟨fi, hf, hk⟩ := kwB_of k1
        exact thn (run_kw g M hf hk I rv rz ((r1.mono t2).len2 rv) ((r2.len2 rz).trans k2) ok2 er2 (r1.mono t2) r2 (hW.mono (t1.trans t2)) h2) fun _ _ ⟨w, H', a, b, q⟩ => ⟨w, H', a, b, q.lift (t1.trans t2)⟩
    | _ => exact nomatch hc
  | .rev a, sc, e, X, hc, g, σ, H, G, env, cs, W, Q, ok, er, hW, h => by
    obtain ⟨l, k, p1, p2, p3, p, rfl, hc⟩ := chE_rev hc
    simp only [wpE] at h
    intro pins s I
    refine Subscript_ (thn ((sE M a hc g ok er hW h) pins s I) fun v s1 ⟨x1, H1, I1, r1, q1⟩ => ?_)
    obtain ⟨G1, env1, cs1, d1, t1, ok1, er1, w1, h1⟩ := q1.tree
    have hst : PO X (some (.UnaryOp .USub (.Constant (.int 1) k p1) p2)) (tPart (tUn (rU fun i => .int (-i)) (tC (.int 1)))) := po_some (pe_un un_neg pe_int)
    refine wpAny_Slice (thn (po_none.run pins s1 σ H1 (fun o H2 => o = none ∧ H2 = H1) I1 ⟨rfl, rfl⟩) fun vl s2 ⟨o2, H2, I2, pl, el, e2⟩ => ?_)
    subst el e2
    refine thn (po_none.run pins s2 σ H2 (fun o H3 => o = none ∧ H3 = H2) I2 ⟨rfl, rfl⟩) fun vu s3 ⟨o3, H3, I3, pu, eu, e3⟩ => ?_
    subst eu e3
    refine thn (hst.run pins s3 σ H3 (fun o H4 => o = some (-1) ∧ H4 = H3) I3 ⟨1, rfl, -1, rfl, rfl, rfl⟩) fun vs s4 ⟨o4, H4, I4, ps, eo, e4⟩ => ?_
    subst eo e4
    cases pl
    cases pu
    exact thn (rev_ok ok1 er1 (dv_rep ok1 w1) h1 I4 r1 ps) fun _ _ ⟨w, H', a, b, q⟩ => ⟨w, H', a, b, q.lift t1⟩
  | .isi2 t u ex, sc, e, X, hc, g, σ, H, G, env, cs, W, Q, ok, er, hW, h => by
    obtain ⟨x, q1, a, y, q2, z, q3, k, q4, p, rfl, rfl, c1, hk, rfl, c2, hk2, rfl, c3, c4, c5⟩ := chE_isi2 hc
    simp only [wpE] at h
    obtain ⟨n1, n2, n3, n4⟩ := bname_of c1
    obtain ⟨m1, m2, m3, m4⟩ := bname_of c2
    obtain ⟨o1, o2, o3, o4⟩ := bname_of c3
    refine (pe_callB (X := X) (call_isiT (X := X)) (g.gl n1) (g.fx.free _ n3) rfl (pa_cons (pWE a) (pa_cons (pe_tup (pa_cons (pe_bltn (v := V.ty t) (g.gl m1) (g.fx.free _ m3) (boot_ty' hk) rfl m4 m2) (pa_cons (pe_bltn (v := V.ty u) (g.gl o1) (g.fx.free _ o3) (boot_ty' hk2) rfl o4 o2) pa_nil))) pa_nil) (starEach_cons c4)) n4 n2 (starEach_cons c4)).we ?_
    refine (sE M ex c5 g ok er hW h).mono fun v1 H1 q1 => ?_
    obtain ⟨G1, env1, cs1, d1, t1, ok1, er1, w1, h1⟩ := q1.tree
    obtain ⟨b, e1, h1⟩ := roK_map h1
    unfold isi2D isiD at e1
    cases e2 : tyN (dv cs1 d1) with
    | none => rw [e2] at e1; cases e1
    | some n =>
      rw [e2] at e1
      refine ⟨by show 2 ≤ sizeLine; rw [sizeLine_eq]; decide, fun tp hp => ?_⟩
      have ok2 := ok1.alloc (u := HO.tup [V.ty t, V.ty u]) hp
      obtain ⟨ty, hn⟩ := ty_rep' (dv_rep ok2 w1) e2
      exact ⟨v1, tp, [V.ty t, V.ty u], .type n, [.type t, .type u], b, rfl, upd_same, .cons (.ty t) (.cons (.ty u) .nil), ty, kit_any2 hn hk hk2 e1, (PQ.mk ok2 er1 (.bl b) h1).lift t1⟩
  | .dic0, sc, e, X, hc, g, σ, H, G, env, cs, W, Q, ok, er, hW, h => by
    obtain ⟨p, rfl⟩ := chE_dic0 hc
    simp only [wpE] at h
    exact (pe_dnewK (X := X)).we fun a hn => PQ.newD ok er hn h
  | .sset ex, sc, e, X, hc, g, σ, H, G, env, cs, W, Q, ok, er, hW, h => by
    obtain ⟨a, q1, q2, p2, p, rfl, c1, c2, c3, c4⟩ := chE_sset hc
    simp only [wpE] at h
    obtain ⟨n1, n2, n3, n4⟩ := bname_of c1
    obtain ⟨m1, m2, m3, m4⟩ := bname_of c2
    refine (pe_callB (X := X) (cr_sortT g.calm) (g.gl n1) (g.fx.free _ n3) rfl (pa_cons (pe_callTy (X := X) (cr_setT g.calm) (g.gl m1) (g.fx.free _ m3) rfl (pa_cons (pWE a) pa_nil (starEach_cons c3)) m4 m2 (starEach_cons c3)) pa_nil) n4 n2).we ?_
    refine (sE M ex c4 g ok er hW h).mono fun v1 H1 q1 => ?_
    obtain ⟨G1, env1, cs1, d1, t1, ok1, er1, w1, h1⟩ := q1.tree
    split at h1
    · rename_i xs hx
      obtain ⟨⟨Ms, few, hM⟩, h1⟩ := h1
      refine ⟨v1, xs, Ms, rfl, txOf_rep (dv_rep ok1 w1) hx, hM, few, fun p hp => ?_⟩
      refine ⟨p, xs, Ms, rfl, upd_same, hM, few, fun ys p2 s1 s2 s3 hp2 => ?_⟩
      have hn := h1 ys s1 s2 s3
      exact (PQ.newL (ok1.alloc hp) er1 hp2 (strs_repL ys) hn).lift t1
    · exact h1.elim
  | .lrg ex, sc, e, X, hc, g, σ, H, G, env, cs, W, Q, ok, er, hW, h => by
    obtain ⟨a, q1, q2, p2, p, rfl, c1, c2, c3, c4⟩ := chE_lrg hc
    simp only [wpE] at h
    obtain ⟨n1, n2, n3, n4⟩ := bname_of c1
    obtain ⟨m1, m2, m3, m4⟩ := bname_of c2
    refine (pe_listRg (X := X) g.calm (g.gl n1) (g.fx.free _ n3) (prg_1 (g.gl m1) (g.fx.free _ m3) (pWE a) (starEach_cons c3))).we ?_
    refine (sE M ex c4 g ok er hW h).mono fun v1 H1 q1 => ?_
    obtain ⟨G1, env1, cs1, d1, t1, ok1, er1, w1, h1⟩ := q1.tree
    split at h1
    · rename_i j
      obtain ⟨⟨j1, j2⟩, h1⟩ := h1
      cases w1
      refine ⟨j, rfl, .of_le (Int.le_refl _) j2 (by decide) j1, fun p hp => ?_⟩
      have e : rgV 0 j = (List.range j.toNat).map fun (i : Nat) => V.int (0 + (i : Int)) := by unfold rgV; rw [Int.sub_zero]
      rw [e]
      exact (PQ.newL ok1 er1 hp (ints_repL (fun i : Nat => 0 + (i : Int)) _) h1).lift t1
    · exact h1.elim
  | .dic1 k i, sc, e, X, hc, g, σ, H, G, env, cs, W, Q, ok, er, hW, h => by
    obtain ⟨n1, n2, p1, p2, p, rfl⟩ := chE_dic1 hc
    simp only [wpE] at h
    exact we_dic1 ok er h
  | .mcall m o es, sc, e, X, hc, g, σ, H, G, env, cs, W, Q, ok, er, hW, h => by
    cases e with
    | Call fn l kws p =>
      match fn, kws, hc with
      | .Attribute a m' ap, [], hc =>
        simp only [chE, Bool.and_eq_true, decide_eq_true_eq] at hc
        obtain ⟨rfl, c0, c1, c2, c3, c4⟩ := hc
        simp only [wpE] at h
        intro pins s I
        refine PySem.W.methodCall_KW (pl := _) (thn ((sE M o c3 g ok er hW h) pins s I) fun v s1 ⟨x1, H1, I1, rv1, q1⟩ => ?_) (methCall_eq c0 (form_of (chA_len c4) rfl c2) c1)
        obtain ⟨G1, env1, cs1, d1, t1, ok1, er1, w1, h1⟩ := q1.tree
        split at h1
        · rename_i f hm
          obtain ⟨c, fs, ci, hi, hl, hm, hci⟩ := mL_of hm
          obtain ⟨a', dx, vs0, rfl, ha, rf⟩ := ins_rep ok1 w1 hi
          cases rv1
          obtain ⟨km, _⟩ := g.fx.meth c m f hm
          refine getmeth_ok I1 ha (g.fx.cls c ci hci) km (rf.look_none hl) ?_
          refine call_args (kws := []) (first := [.ref a']) km.kp (chA_len c4) rfl I1 ?_
          refine wan_mono (sA M es c4 g ok1 er1 (hW.mono t1) h1) fun vs H' ⟨G2, env2, cs2, ds, t2, ok2, er2, r2, h2⟩ => ?_
          refine (pk_nil (X := X)).wk ?_
          intro s us ws I rv rz
          cases rz
          exact thn (run_phi g M I (show Vals (V.ref a' :: vs) (Value.ref a' :: us) from .cons rfl rv) ok2 er2 (.cons (w1.mono t2) r2) (hW.mono (t1.trans t2)) h2) fun _ _ ⟨w, H', a, b, q⟩ => ⟨w, H', a, b, q.lift (t1.trans t2)⟩
        · exact h1.elim
    | _ => exact nomatch hc
  | .mcallk m o es kn ks perm, sc, e, X, hc, g, σ, H, G, env, cs, W, Q, ok, er, hW, h => by
    cases e with
    | Call fn l kws p =>
      match fn, hc with
      | .Attribute a m' ap, hc =>
        simp only [chE, Bool.and_eq_true, decide_eq_true_eq] at hc
        obtain ⟨rfl, rfl, c0, c1, c2, c3, c4, c5⟩ := hc
        simp only [wpE] at h
        intro pins s I
        refine PySem.W.methodCall_KW (pl := _) (thn ((sE M o c3 g ok er hW h) pins s I) fun v s1 ⟨x1, H1, I1, rv1, q1⟩ => ?_) (methCall_eq c0 (form_of (chA_len c4) (chK_all c5) c2) c1)
        obtain ⟨G1, env1, cs1, d1, t1, ok1, er1, w1, h1⟩ := q1.tree
        split at h1
        · rename_i f hm
          obtain ⟨c, fs, ci, hi, hl, hm, hci⟩ := mL_of hm
          obtain ⟨a', dx, vs0, rfl, ha, rf⟩ := ins_rep ok1 w1 hi
          cases rv1
          obtain ⟨km, _⟩ := g.fx.meth c m f hm
          refine getmeth_ok I1 ha (g.fx.cls c ci hci) km (rf.look_none hl) ?_
          refine call_args (first := [.ref a']) km.kp (chA_len c4) (chK_all c5) I1 ?_
          refine wan_mono (sA M es c4 g ok1 er1 (hW.mono t1) h1) fun vs H' ⟨G2, env2, cs2, ds, t2, ok2, er2, r2, h2⟩ => ?_
          refine (sK M ks c5 g ok2 er2 (hW.mono (t1.trans t2)) h2).mono fun zs H3 ⟨G3, env3, cs3, es3, t3, ok3, er3, r3, k1, k2, h3⟩ => ?_
          intro s us ws I rv rz
          obtain ⟨fi, hf, hk⟩ := kwB_of k1
          have rvc : Vals (V.ref a' :: vs) (Value.ref a' :: us) := .cons rfl rv
          exact thn (run_kw g M hf hk I rvc rz (by show us.length + 1 = _; rw [(r2.mono t3).len2 rv]) ((r3.len2 rz).trans k2) ok3 er3 (.cons ((w1.mono t2).mono t3) (r2.mono t3)) r3 (hW.mono ((t1.trans t2).trans t3)) h3) fun _ _ ⟨w, H', a, b, q⟩ => ⟨w, H', a, b, q.lift ((t1.trans t2).trans t3)⟩
        · exact h1.elim
    | _ => exact nomatch hc
  | .fld o f, sc, e, X, hc, g, σ, H, G, env, cs, W, Q, ok, er, hW, h => by
    cases e with
    | Attribute a f' p =>
      simp only [chE, Bool.and_eq_true, decide_eq_true_eq] at hc
      obtain ⟨rfl, c0, c1⟩ := hc
      simp only [wpE] at h
      intro pins s I
      refine attr_of (attrBase c0) (thn ((sE M o c1 g ok er hW h) pins s I) fun v s1 ⟨x1, H1, I1, rv1, q1⟩ => ?_)
      obtain ⟨G1, env1, cs1, d1, t1, ok1, er1, w1, h1⟩ := q1.tree
      unfold fldW at h1
      split at h1
      · rename_i c fs hi
        obtain ⟨a', dx, vs0, rfl, ha, rf⟩ := ins_rep ok1 w1 hi
        cases rv1
        split at h1
        · rename_i g' hp
          obtain ⟨⟨p', hp'⟩, fi, hf, hn⟩ := g.fx.prop c f g' hp
          obtain ⟨ci, hci⟩ : ∃ ci, P.cls[c]? = some ci := by
            unfold Pg.prop at hp
            cases e : P.cls[c]? with
            | none => rw [e] at hp; cases hp
            | some ci => exact ⟨ci, rfl⟩
          obtain ⟨_, h1⟩ := h1
          obtain ⟨fd, F, hb, _⟩ := (g.fx.fn g' fi hf).ex
          refine thn (prop_g (E := fun _ _ _ => False) (R := PQ X ca G1 σ Q) g.units I1 ha (g.fx.cls c ci hci) hp' F g.room hb (fun _ _ _ z => z) ?_) fun _ _ ⟨w, H', a, b, q⟩ => ⟨w, H', a, b, q.lift t1⟩
          refine ⟨G1, cs1, [d1], ok1, .cons w1 .nil, hn.symm, M g' _ _ (fun d fr c' q G' H' v s3 ok3 r3 => ⟨G', _, c', d, fr, s3, ok3, er1.mono s3, r3, q⟩) (fun x c' q => q.elim) h1⟩
        · split at h1
          · rename_i d hd
            obtain ⟨hF, h1⟩ := h1
            obtain ⟨y, hy, ry⟩ := rf.look hd
            obtain ⟨ci, hci⟩ : ∃ ci, P.cls[c]? = some ci := by
              unfold Pg.isF at hF
              cases e : P.cls[c]? with
              | none => rw [e] at hF; cases hF
              | some ci => exact ⟨ci, rfl⟩
            exact getattr_ok I1 ha (g.fx.cls c ci hci) (g.fx.fld c f hF) hy fun u s' I' ru => ⟨y, H1, I', ru, (PQ.mk ok1 er1 ry h1).lift t1⟩
          · rename_i hd
            split at h1
            · rename_i d hk
              obtain ⟨ci, hci⟩ : ∃ ci, P.cls[c]? = some ci := by
                have hk' := hk
                unfold Pg.con at hk'
                cases e : P.cls[c]? with
                | none => rw [e] at hk'; cases hk'
                | some ci => exact ⟨ci, rfl⟩
              obtain ⟨v0, u0, hC, hr⟩ := g.fx.con c f d hk
              exact getcon_ok I1 ha (g.fx.cls c ci hci) hC (rf.look_none hd) fun s' I' => ⟨v0, H1, I', hC.rel, (PQ.mk ok1 er1 (hr _) h1).lift t1⟩
            · exact h1.elim
      · exact h1.elim
    | _ => exact nomatch hc
  | .ccon c f, sc, e, X, hc, g, σ, H, G, env, cs, W, Q, ok, er, hW, h => by
    cases e with
    | Attribute a f' p =>
      match a, hc with
      | .Name x q, hc =>
        simp only [chE, Bool.and_eq_true, decide_eq_true_eq] at hc
        obtain ⟨rfl, c0⟩ := hc
        simp only [wpE] at h
        obtain ⟨n1, n2, n3⟩ := gname_cl c0
        split at h
        · rename_i d hk
          obtain ⟨mc, v0, u0, h1, h2, h3⟩ := g.fx.ccn c f d hk
          exact (ClX.pe_cval (X := X) (pe_glob (v := V.ref (ca c)) (g.gl n1) (g.fx.gcl x c n3) rfl n2)).we ⟨ca c, mc, v0, u0, rfl, h1, h2, PQ.mk ok er (h3 _) h⟩
        · exact h.elim
    | _ => exact nomatch hc
  | .bi b es, sc, e, X, hc, g, σ, H, G, env, cs, W, Q, ok, er, hW, h => by
    rcases chE_bi hc with ⟨t, ex, x, q1, a, y, q2, p, rfl, he, rfl, rfl, c1, hk, rfl, c2, c3, c4⟩ | ⟨c, ex, x, q1, a, y, q2, p, rfl, he, rfl, rfl, c1, c2, c3, c4⟩ | ⟨x, q1, a, l, p, k, rfl, hb, c1, c2⟩
    · subst he
      simp only [wpE, wpA] at h
      obtain ⟨n1, n2, n3, n4⟩ := bname_of c1
      obtain ⟨m1, m2, m3, m4⟩ := bname_of c2
      have hbt : bootBuiltins (Str.ofString t) = some (.type t) := boot_ty' hk
      refine (pe_callB (X := X) (call_isi (X := X)) (g.gl n1) (g.fx.free _ n3) rfl (pa_cons (pWE a) (pa_cons (pe_bltn (v := V.ty t) (g.gl m1) (g.fx.free _ m3) hbt rfl m4 m2) pa_nil) (starEach_cons c3)) n4 n2 (starEach_cons c3)).we ?_
      refine (sE M ex c4 g ok er hW h).mono fun v1 H1 q1 => ?_
      obtain ⟨G1, env1, cs1, d1, t1, ok1, er1, w1, h1⟩ := q1.tree
      have h1 : roK ((isiD t (dv cs1 d1)).map fun b => (D.bl b, false)) fun d fr => Q d fr env1 cs1 := h1
      obtain ⟨b, e1, h1⟩ := roK_map h1
      unfold isiD at e1
      cases e2 : tyN (dv cs1 d1) with
      | none => rw [e2] at e1; cases e1
      | some n =>
        rw [e2] at e1
        have e1 : subT n t = some b := e1
        obtain ⟨ty, hn⟩ := ty_rep' (dv_rep ok1 w1) e2
        exact ⟨v1, .ty t, .type n, .type t, b, rfl, .ty t, ty, kit_ty ((kit_all n hn t hk).trans e1), (PQ.mk ok1 er1 (.bl b) h1).lift t1⟩
    · subst he
      simp only [wpE, wpA] at h
      obtain ⟨n1, n2, n3, n4⟩ := bname_of c1
      obtain ⟨m1, m2, m3⟩ := gname_cl c2
      refine (pe_callB (X := X) (call_isi (X := X)) (g.gl n1) (g.fx.free _ n3) rfl (pa_cons (pWE a) (pa_cons (pe_glob (v := V.ref (ca c)) (g.gl m1) (g.fx.gcl y c m3) rfl m2) pa_nil) (starEach_cons c3)) n4 n2 (starEach_cons c3)).we ?_
      refine (sE M ex c4 g ok er hW h).mono fun v1 H1 q1 => ?_
      obtain ⟨G1, env1, cs1, d1, t1, ok1, er1, w1, h1⟩ := q1.tree
      have r1 := dv_rep ok1 w1
      have h1 : roK (biopP P (.isc c) [dv cs1 d1]) fun d fr => Q d fr env1 cs1 := h1
      generalize dv cs1 d1 = dd at r1 h1
      rcases isc_P h1 with ⟨c', fs, ci, rfl, hci, h1⟩ | ⟨n, e3, h1⟩
      · obtain ⟨a', dx, vs, rfl, ha, _⟩ := r1
        obtain ⟨i1, i2⟩ := g.fx.ity c' ci hci
        exact ⟨_, .ref (ca c), .ref (ca c'), .ref (ca c), _, rfl, .own _, .base (.ins ha (g.fx.cls c' ci hci) i1 g.fx.ocl.1 g.fx.ocl.2 i2), g.fx.isC y c c' ci m3 hci, (PQ.mk ok1 er1 (.bl _) h1).lift t1⟩
      · obtain ⟨ty, hn⟩ := ty_rep' r1 e3
        exact ⟨v1, .ref (ca c), .type n, .ref (ca c), false, rfl, .own _, ty, g.fx.isB y c n m3 hn, (PQ.mk ok1 er1 (.bl _) h1).lift t1⟩
    · simp only [wpE] at h
      obtain ⟨n1, n2, n3, n4⟩ := bname_of c1
      have c3 := chA_len c2
      simp only [List.all_cons, Bool.and_eq_true] at c3
      intro pins s I
      refine wpAny_Call_Name_kw (ld_blt I (g.gl n1) (g.fx.free x n3) (boot_bi hb) ?_ n4 n2)
      refine callB (thn ((sA M es c2 g ok er hW h).2 p pins s I) fun us s1 ⟨vs, H1, I1, rv, G1, env1, cs1, ds, t1, ok1, er1, r1, h1⟩ => ?_) (starEach_cons c3.1) (starEach_any c3.2)
      by_cases hrp : b = .repr
      · subst hrp
        cases hb
        have h1 : roK (biopP P .repr (ds.map (dv cs1))) fun d fr => Q d fr env1 cs1 := h1
        have one : ∃ d v u, ds = [d] ∧ vs = [v] ∧ us = [u] := by
          cases ds with
          | nil => exact h1.elim
          | cons d ds => cases ds with
            | cons _ _ => exact h1.elim
            | nil => cases r1 with
              | cons q1 q2 => cases q2; cases rv with
                | cons z1 z2 => cases z2; exact ⟨_, _, _, rfl, rfl, rfl⟩
        obtain ⟨d, v, u, rfl, rfl, rfl⟩ := one
        cases r1 with
        | cons q1 q2 => cases rv with
          | cons z1 z2 => exact thn (call_repr_ok g ok1 er1 I1 q1 z1 h1) fun _ _ ⟨w, H', a, b, q⟩ => ⟨w, H', a, b, q.lift t1⟩
      have hn1 : ∀ t, b ≠ .isi t := fun t z => by rw [z] at hb; cases hb
      have hn2 : ∀ t, b ≠ .isc t := fun t z => by rw [z] at hb; cases hb
      have h2 : roK (biop b (ds.map (dv cs1))) fun d fr => Q d fr env1 cs1 := by
        have h1 : roK (biopP P b (ds.map (dv cs1))) fun d fr => Q d fr env1 cs1 := h1
        unfold biopP at h1
        split at h1
        · exact absurd rfl hrp
        · exact absurd rfl (hn2 _)
        · exact absurd rfl (hn2 _)
        · exact h1
      exact thn (bi_ok g.calm ok1 er1 (RHL_of ok1 r1) h2 hn1 hn2 pins s1 us I1 rv) fun _ _ ⟨w, H', a, b, q⟩ => ⟨w, H', a, b, q.lift t1⟩
  | .bm m o es, sc, e, X, hc, g, σ, H, G, env, cs, W, Q, ok, er, hW, h => by
    cases e with
    | Call fn l kws p =>
      match fn, kws, hc with
      | .Attribute a m' ap, [], hc =>
        simp only [chE, Bool.and_eq_true, decide_eq_true_eq] at hc
        obtain ⟨⟨rfl, hm⟩, c0, c1, c2, c3, c4⟩ := hc
        simp only [wpE] at h
        intro pins s I
        refine wpAny_Call_method_late (attrBase c0) (form_of (kws := []) (chA_len c4) rfl c2) c1 rfl (thn ((sE M o c3 g ok er hW h) pins s I) fun v s1 ⟨x1, H1, I1, rv1, q1⟩ => ?_)
        obtain ⟨G1, env1, cs1, d1, t1, ok1, er1, w1, h1⟩ := q1.tree
        split at h1
        · rename_i y
          cases w1
          have rv1' := rv1
          obtain ⟨tk, rfl⟩ := rv1
          refine ⟨"str", bmId m, PySem.F.plainAttrs_str, (bm_slot m hm).1, (bm_slot m hm).2, typeIs_str _ _ _, (fun _ e => nomatch e), ?_⟩
          have qA := sA M es c4 g ok1 er1 (hW.mono t1) h1
          cases l with
          | nil =>
            obtain ⟨G2, env2, cs2, ds, t2, ok2, er2, r2, h2⟩ := qA.1 rfl
            exact Calls.callWith_builtin rfl (PySem.evalArgs_none (thn (bm_ok ok2 er2 (show RepH X.K ca G2 H1 (.str y) (.str y) from rfl) (RHL_of ok2 r2) h2 pins s1 _ [] I1 rv1' .nil) fun _ _ ⟨w, H', a, b, q⟩ => ⟨w, H', a, b, q.lift (t1.trans t2)⟩))
          | cons e1 l =>
            have c5 := chA_len c4
            simp only [List.all_cons, Bool.and_eq_true] at c5
            have hA := qA.2 p pins s1 I1
            rw [starEach_cons c5.1] at hA ⊢
            refine Calls.callWith_builtin (by show (false || (backTo p (starEach l X.env)).any (·.1)) = false; rw [starEach_any c5.2]; rfl) (Calls.evalArgs_plain ?_)
            exact thn hA fun us s2 ⟨vs, H2, I2, r2', G2, env2, cs2, ds, t2, ok2, er2, r2, h2⟩ => thn (bm_ok ok2 er2 (show RepH X.K ca G2 H2 (.str y) (.str y) from rfl) (RHL_of ok2 r2) h2 pins s2 _ us I2 rv1' r2') fun _ _ ⟨w, H', a, b, q⟩ => ⟨w, H', a, b, q.lift (t1.trans t2)⟩
        · obtain ⟨rfl, hl, h1⟩ := h1
          obtain ⟨ty1, ty2⟩ := tyV_is I1 rv1 (lst_ty (dv_rep ok1 w1) hl)
          refine ⟨"list", "list.index", PySem.F.plainAttrs_list, PySem.F.slot_list_index, PySem.F.type_list_index, ty1, ty2, ?_⟩
          have qA := sA M es c4 g ok1 er1 (hW.mono t1) h1
          cases l with
          | nil =>
            obtain ⟨G2, env2, cs2, ds, t2, ok2, er2, r2, h2⟩ := qA.1 rfl
            exact Calls.callWith_builtin rfl (PySem.evalArgs_none (thn (lix_ok ok2 er2 (dv_rep ok2 (w1.mono t2)) (RHL_of ok2 r2) h2 pins s1 _ [] I1 rv1 .nil) fun _ _ ⟨w, H', a, b, q⟩ => ⟨w, H', a, b, q.lift (t1.trans t2)⟩))
          | cons e1 l =>
            have c5 := chA_len c4
            simp only [List.all_cons, Bool.and_eq_true] at c5
            have hA := qA.2 p pins s1 I1
            rw [starEach_cons c5.1] at hA ⊢
            refine Calls.callWith_builtin (by show (false || (backTo p (starEach l X.env)).any (·.1)) = false; rw [starEach_any c5.2]; rfl) (Calls.evalArgs_plain ?_)
            exact thn hA fun us s2 ⟨vs, H2, I2, r2', G2, env2, cs2, ds, t2, ok2, er2, r2, h2⟩ => thn (lix_ok ok2 er2 (dv_rep ok2 (w1.mono t2)) (RHL_of ok2 r2) h2 pins s2 _ us I2 rv1 r2') fun _ _ ⟨w, H', a, b, q⟩ => ⟨w, H', a, b, q.lift (t1.trans t2)⟩
    | _ => exact nomatch hc
  | .lc own tg src cond elt, sc, e, X, hc, g, σ, H, G, env, cs, W, Q, ok, er, hW, h => by
    cases e with
    | ListComp e1 gens scope p =>
      match gens, hc with
      | [⟨t, it, ifs, 0⟩], hc =>
        simp only [chE, Bool.and_eq_true] at hc
        obtain ⟨c0, c1, c2, c3, c4, c5⟩ := hc
        simp only [wpE] at h
        refine (pe_lc (X := X) (wi := WI X t it) (g := WBG X scope t)
          (tt := WBTs X scope ifs) (te := WBE X scope e1) (own := own)
          g.calm (by rw [g.hN]; exact g.nd) (pWI t it) (by rw [g.hN, g.hsc]; exact blkOk_by c0) (fun s0 H0 C cl fp => ⟨fun pins s' σ H' v u Q I r h => h s0 H0 C cl fp pins s' u I r⟩) (fun s0 H0 C cl fp => ⟨fun pins s' σ H' Q I h => h s0 H0 C cl fp pins s' I⟩)
          (fun s0 H0 C cl fp => ⟨fun pins s' σ H' Q I h => h s0 H0 C cl fp pins s' I⟩) (folded_chR c2)).we ?_
        exact lc_of g c1 c3 (sR M src c2 g t ok er hW h) (fun s0 H0 C cl fp σ H G env cs Q ok er h => sC M cond c4 (g.blk s0 H0 scope cl C fp) ok er WOk.never h) (fun s0 H0 C cl fp σ H G env cs Q ok er h => sE M elt c5 (g.blk s0 H0 scope cl C fp) ok er WOk.never h)
    | _ => exact nomatch hc
  | .fs es, sc, e, X, hc, g, σ, H, G, env, cs, W, Q, ok, er, hW, h => by
    cases e with
    | JoinedStr l p =>
      match l, hc with
      | a :: b :: l, hc =>
        simp only [chE] at hc
        simp only [wpE] at h
        have pj : ∀ l : List Expr, PJ X l (l.map (WE X)) := fun l => by
          induction l with
          | nil => exact .nil
          | cons a l ih => exact .cons (pWE a) ih
        refine (pe_joined (X := X) (pj (a :: b :: l))).we ?_
        have q := sF M es hc g ok er hW h
        exact tJs_mono q fun x H' ⟨G1, env1, cs1, t1, ok1, er1, h1⟩ => ⟨G1, env1, cs1, _, false, t1, ok1, er1, (Rep.str x).r, h1⟩
    | _ => exact nomatch hc
  | .new ex, sc, e, X, hc, g, σ, H, G, env, cs, W, Q, ok, er, hW, h => by
    have hc : (!(isComp e) && chE P N sc ex e) = true := by rw [← hc]; cases e <;> simp only [chE]
    simp only [Bool.and_eq_true] at hc
    simp only [wpE] at h
    refine (sE M ex hc.2 g ok er hW h).mono fun v1 H1 q1 => ?_
    obtain ⟨G1, env1, cs1, d1, fr, t1, ok1, er1, r1, h1⟩ := q1
    split at h1
    · unfold RepR at r1
      rw [if_pos rfl] at r1
      obtain ⟨a, o, rfl, e1, hG, hcs, ob⟩ := r1
      cases o <;> cases e1
      exact (PQ.mk (ok1.take hG ob) er1 (.cell a) (h1 a hcs)).lift t1
    · unfold RepR at r1
      rw [if_pos rfl] at r1
      obtain ⟨a, o, rfl, e1, hG, hcs, ob⟩ := r1
      cases o <;> cases e1
      exact (PQ.mk (ok1.take hG ob) er1 (.cell a) (h1 a hcs)).lift t1
    · exact h1.elim
theorem sF (M : Mono Φ) : ∀ (es : Exs) {sc : Scope} {l : List Expr} {X : Cx}, chF P N sc es l = true → Gd P N Φ ca fa lv X sc → ∀ {σ : L2.St} {H G : Hp} {env : Env} {cs : CS} {W : WT} {acc : Str} {Q : Str → Env → CS → Prop}, Ok X.K ca G H cs → EnvR X.K ca G env σ → WOk X ca G W →
    wpF P Φ es acc env cs W Q → tJs (l.map (WE X)) acc σ H (PF' X ca G σ Q)
  | .nil, sc, l, X, hc, g, σ, H, G, env, cs, W, acc, Q, ok, er, hW, h => by
    cases l with
    | nil =>
      simp only [wpF] at h
      exact ⟨G, env, cs, Same.refl _, ok, er, h⟩
    | cons _ _ => exact nomatch hc
  | .cons ex es, sc, l, X, hc, g, σ, H, G, env, cs, W, acc, Q, ok, er, hW, h => by
    rcases chF_cons hc with ⟨x, k, p, l', rfl, rfl, c1⟩ | ⟨e1, a, p, l', rfl, rfl, c1, c2⟩
    · simp only [wpF] at h
      exact (pe_str (X := X)).we ⟨x, rfl, h.1, sF M es c1 g ok er hW h.2⟩
    · simp only [wpF] at h
      refine (pe_fmtR (X := X) (pWE a)).we ((sE M e1 c1 g ok er hW h).mono fun v1 H1 q1 => ?_)
      obtain ⟨G1, env1, cs1, d1, t1, ok1, er1, w1, h1⟩ := q1.tree
      split at h1
      · rename_i y
        cases w1
        refine .inl ⟨y, rfl, h1.1, reprText y, rfl, h1.2.1, ?_⟩
        exact tJs_mono (sF M es c2 g ok1 er1 (hW.mono t1) h1.2.2) fun x H q => q.lift t1
      · exact h1.elim
theorem sK (M : Mono Φ) : ∀ (es : Exs) {sc : Scope} {l : List Keyword} {X : Cx}, chK P N sc es l = true → Gd P N Φ ca fa lv X sc → ∀ {σ : L2.St} {H G : Hp} {env : Env} {cs : CS} {W : WT} {Q : QA}, Ok X.K ca G H cs → EnvR X.K ca G env σ → WOk X ca G W →
    wpA P Φ es env cs W Q → WK X l σ H (PA' X ca G σ Q)
  | .nil, sc, l, X, hc, g, σ, H, G, env, cs, W, Q, ok, er, hW, h => by
    cases l with
    | nil =>
      simp only [wpA] at h
      exact (pk_nil (X := X)).wk ⟨G, env, cs, [], Same.refl _, ok, er, .nil, h⟩
    | cons _ _ => exact nomatch hc
  | .cons e es, sc, l, X, hc, g, σ, H, G, env, cs, W, Q, ok, er, hW, h => by
    cases l with
    | nil => exact nomatch hc
    | cons k l =>
      obtain ⟨nm, a, kp⟩ := k
      cases nm with
      | none => exact nomatch hc
      | some y =>
        simp only [chK, Bool.and_eq_true] at hc
        simp only [wpA] at h
        refine (pk_cons (X := X) (pWE a) (pWK l)).wk ((sE M e hc.1 g ok er hW h).mono fun v1 H1 q1 => ?_)
        obtain ⟨G1, env1, cs1, d1, t1, ok1, er1, w1, h1⟩ := q1.tree
        refine (sK M es hc.2 g ok1 er1 (hW.mono t1) h1).mono fun vs H2 q2 => ?_
        obtain ⟨G2, env2, cs2, ds, t2, ok2, er2, r2, h2⟩ := q2
        exact ⟨G2, env2, cs2, _, t1.trans t2, ok2, er2, .cons (w1.mono t2) r2, h2⟩
theorem sA (M : Mono Φ) : ∀ (es : Exs) {sc : Scope} {l : List Expr} {X : Cx}, chA P N sc es l = true → Gd P N Φ ca fa lv X sc → ∀ {σ : L2.St} {H G : Hp} {env : Env} {cs : CS} {W : WT} {Q : QA}, Ok X.K ca G H cs → EnvR X.K ca G env σ → WOk X ca G W →
    wpA P Φ es env cs W Q → WAn X l σ H (PA' X ca G σ Q)
  | .nil, sc, l, X, hc, g, σ, H, G, env, cs, W, Q, ok, er, hW, h => by
    cases l with
    | nil =>
      simp only [wpA] at h
      have q : PA' X ca G σ Q [] H := ⟨G, env, cs, [], Same.refl _, ok, er, .nil, h⟩
      exact ⟨fun _ => q, (pa_nil (X := X)).wa q⟩
    | cons _ _ => exact nomatch hc
  | .cons e es, sc, l, X, hc, g, σ, H, G, env, cs, W, Q, ok, er, hW, h => by
    cases l with
    | nil => exact nomatch hc
    | cons a l =>
      simp only [chA, Bool.and_eq_true] at hc
      simp only [wpA] at h
      refine ⟨(fun z => nomatch z), ?_⟩
      refine (pa_cons (X := X) (pWE a) (pWA l) (starEach_cons hc.1)).wa ((sE M e hc.2.1 g ok er hW h).mono fun v1 H1 q1 => ?_)
      obtain ⟨G1, env1, cs1, d1, t1, ok1, er1, w1, h1⟩ := q1.tree
      refine ((sA M es hc.2.2 g ok1 er1 (hW.mono t1) h1).2).mono fun vs H2 q2 => ?_
      obtain ⟨G2, env2, cs2, ds, t2, ok2, er2, r2, h2⟩ := q2
      exact ⟨G2, env2, cs2, _, t1.trans t2, ok2, er2, .cons (w1.mono t2) r2, h2⟩
theorem sO (M : Mono Φ) : ∀ (o : Ox) {sc : Scope} {e : Option Expr} {X : Cx}, chO P N sc o e = true → Gd P N Φ ca fa lv X sc → ∀ {σ : L2.St} {H G : Hp} {env : Env} {cs : CS} {W : WT} {Q : Option Int → Env → CS → Prop}, Ok X.K ca G H cs → EnvR X.K ca G env σ → WOk X ca G W →
    wpO P Φ o env cs W Q → WO X e σ H (PO' X ca G σ Q)
  | .none, sc, e, X, hc, g, σ, H, G, env, cs, W, Q, ok, er, hW, h => by
    cases e with
    | some _ => exact nomatch hc
    | none =>
      simp only [wpO] at h
      exact (po_none (X := X)).wo ⟨G, env, cs, Same.refl _, ok, er, h⟩
  | .some ex, sc, e, X, hc, g, σ, H, G, env, cs, W, Q, ok, er, hW, h => by
    cases e with
    | none => exact nomatch hc
    | some a =>
      simp only [chO] at hc
      simp only [wpO] at h
      refine (po_some (X := X) (pWE a)).wo ((sE M ex hc g ok er hW h).mono fun v1 H1 q1 => ?_)
      obtain ⟨G1, env1, cs1, d1, t1, ok1, er1, w1, h1⟩ := q1.tree
      split at h1
      · cases w1
        exact ⟨_, rfl, G1, env1, cs1, t1, ok1, er1, h1⟩
      · exact h1.elim
theorem sT (M : Mono Φ) : ∀ (c : Ct) {sc : Scope} {e : Expr} {X : Cx}, chT P N sc c e = true → Gd P N Φ ca fa lv X sc → ∀ {σ : L2.St} {H G : Hp} {env : Env} {cs : CS} {W : WT} {Q : Bool → Env → CS → Prop}, Ok X.K ca G H cs → EnvR X.K ca G env σ → WOk X ca G W →
    wpT P Φ c env cs W Q → WT' X e σ H (PB X ca G σ Q) ∧ ((∃ op l p, e = .BoolOp op l p) → WW X e σ H (PB X ca G σ Q))
  | .val x, sc, e, X, hc, g, σ, H, G, env, cs, W, Q, ok, er, hW, h => by
    rcases chT_val hc with ⟨op, a, b, l, r, p, rfl, rfl, c0, c1, c2⟩ | ⟨o1, o2, a, b, c, l, r, t, p, rfl, rfl, c0, c1, c2, c3⟩ | ⟨c1, c2⟩
    · refine ⟨?_, fun z => by obtain ⟨_, _, _, z⟩ := z; cases z⟩
      simp only [wpT, wpE] at h
      refine wt_cmp c0 ((sE M a c1 g ok er hW h).mono fun v1 H1 q1 => ?_)
      obtain ⟨G1, env1, cs1, d1, s1, ok1, er1, r1, h1⟩ := q1.tree
      refine (sE M b c2 g ok1 er1 (hW.mono s1) h1).mono fun v2 H2 q2 => ?_
      obtain ⟨G2, env2, cs2, d2, s2, ok2, er2, r2, h2⟩ := q2.tree
      have r1' := r1.mono s2
      intro pins s v u I rx ry
      refine thn (cmpW_ok g M ok2 er2 r1' r2 (hW.mono (s1.trans s2)) h2 pins s v u I rx ry) fun _ _ ⟨w, H', a, b, k, e1, G3, env3, cs3, s3, ok3, er3, q⟩ => ⟨w, H', a, b, k, e1, G3, env3, cs3, (s1.trans s2).trans s3, ok3, er3, q⟩
    · refine ⟨?_, fun z => by obtain ⟨_, _, _, z⟩ := z; cases z⟩
      simp only [wpT, wpE] at h
      intro pins s I
      refine isTrue_chain (thn ((sE M a c1 g ok er hW h) pins s I) fun v s1 ⟨x, H1, I1, r1, q1⟩ => ?_) (lastMark2 c0)
      obtain ⟨G1, env1, cs1, d1, t1, ok1, er1, w1, h1⟩ := q1.tree
      refine test_link (thn ((sE M b c2 g ok1 er1 (hW.mono t1) h1) pins s1 I1) fun u s2 ⟨y, H2, I2, r2, q2⟩ => ?_)
      obtain ⟨G2, env2, cs2, d2, t2, ok2, er2, w2, h2⟩ := q2.tree
      refine thn (cmpop_ok (R := fun k H' => if k = true then wpE P Φ c env2 cs2 W (fun d3 _ env3 cs3 => bK (cmpop o2 (dv cs3 d2) (dv cs3 d3)) fun k2 => bK (truth (dv cs3 (.bl k2))) fun b => Q b env3 cs3) ∧ H' = H2 else bK (truth (dv cs2 (.bl false))) (fun b => Q b env2 cs2) ∧ H' = H2) (by have := g.room.units; omega) ok2.sub (dv_rep ok2 (w1.mono t2)) (dv_rep ok2 w2) h2 (fun k q => by
        cases k with
        | true => rw [if_pos rfl] at q ⊢; exact ⟨q, rfl⟩
        | false => rw [if_neg Bool.false_ne_true] at q ⊢; exact ⟨q, rfl⟩) pins s2 v u I2 r1 r2) fun d s3 ⟨z, H3, I3, r3, k, e, q3⟩ => ?_
      subst e
      cases r3
      refine wpAny_truthy_bool ?_
      cases k with
      | false =>
        rw [if_neg Bool.false_ne_true] at q3
        obtain ⟨q3, rfl⟩ := q3
        exact ite_ff ⟨_, I3, G2, env2, cs2, t1.trans t2, ok2, er2, q3⟩
      | true =>
        rw [if_pos rfl] at q3
        obtain ⟨q3, rfl⟩ := q3
        refine ite_tt (test_last (thn ((sE M c c3 g ok2 er2 (hW.mono (t1.trans t2)) q3) pins s3 I3) fun w' s4 ⟨z', H4, I4, r4, q4⟩ => ?_))
        obtain ⟨G4, env4, cs4, d4, t4, ok4, er4, w4, h4⟩ := q4.tree
        refine thn (cmpop_ok (R := fun b H' => PB X ca G σ Q b H') (by have := g.room.units; omega) ok4.sub (dv_rep ok4 (w2.mono t4)) (dv_rep ok4 w4) h4 (fun b q => ⟨G4, env4, cs4, (t1.trans t2).trans t4, ok4, er4, q⟩) pins s4 u w' I4 r2 r4) fun _ s5 ⟨w, H', I5, b, k, e1, q⟩ => ?_
        subst e1
        cases b
        exact wpAny_truthy_bool ⟨H', I5, q⟩
    · refine ⟨?_, fun z => by obtain ⟨_, _, _, rfl⟩ := z; exact nomatch c1⟩
      simp only [wpT] at h
      refine (pt_truth (X := X) (pWE e) (fun wh => truth_of c1)).wt ((sE M x c2 g ok er hW h).mono fun v1 H1 q1 => ?_)
      obtain ⟨G1, env1, cs1, d1, t1, ok1, er1, w1, h1⟩ := q1.tree
      cases e2 : truth (dv cs1 d1) with
      | none => rw [e2] at h1; exact h1.elim
      | some b =>
        rw [e2] at h1
        exact ⟨b, truth_ok (dv_rep ok1 w1) e2, G1, env1, cs1, t1, ok1, er1, h1⟩
  | .and a b, sc, e, X, hc, g, σ, H, G, env, cs, W, Q, ok, er, hW, h => by
    cases e with
    | BoolOp op l p =>
      cases op with
      | Or => exact nomatch hc
      | And =>
        match l, hc with
        | e1 :: e2 :: r, hc =>
          simp only [chT, Bool.and_eq_true] at hc
          simp only [wpT] at h
          have q : WW X (.BoolOp .And (e1 :: e2 :: r) p) σ H (PB X ca G σ Q) := by
            refine (pw_and (X := X) (pWT e1) (pWW (.BoolOp .And (e2 :: r) p))).ww (WT.mono (sT M a hc.1 g ok er hW h).1 fun k H1 q1 => ?_)
            obtain ⟨G1, env1, cs1, t1, ok1, er1, h1⟩ := q1
            cases k with
            | true =>
              rw [if_pos rfl] at h1 ⊢
              exact ((sT M b hc.2 g ok1 er1 (hW.mono t1) h1).2 ⟨_, _, _, rfl⟩).mono fun v2 H2 q2 => q2.lift t1
            | false =>
              rw [if_neg Bool.false_ne_true] at h1 ⊢
              exact ⟨G1, env1, cs1, t1, ok1, er1, h1⟩
          exact ⟨q.wt, fun _ => q⟩
    | _ => exact nomatch hc
  | .or a b, sc, e, X, hc, g, σ, H, G, env, cs, W, Q, ok, er, hW, h => by
    cases e with
    | BoolOp op l p =>
      cases op with
      | And => exact nomatch hc
      | Or =>
        match l, hc with
        | e1 :: e2 :: r, hc =>
          simp only [chT, Bool.and_eq_true] at hc
          simp only [wpT] at h
          have q : WW X (.BoolOp .Or (e1 :: e2 :: r) p) σ H (PB X ca G σ Q) := by
            refine (pw_or (X := X) (pWT e1) (pWW (.BoolOp .Or (e2 :: r) p))).ww (WT.mono (sT M a hc.1 g ok er hW h).1 fun k H1 q1 => ?_)
            obtain ⟨G1, env1, cs1, t1, ok1, er1, h1⟩ := q1
            cases k with
            | true =>
              rw [if_pos rfl] at h1 ⊢
              exact ⟨G1, env1, cs1, t1, ok1, er1, h1⟩
            | false =>
              rw [if_neg Bool.false_ne_true] at h1 ⊢
              exact ((sT M b hc.2 g ok1 er1 (hW.mono t1) h1).2 ⟨_, _, _, rfl⟩).mono fun v2 H2 q2 => q2.lift t1
          exact ⟨q.wt, fun _ => q⟩
    | _ => exact nomatch hc
  | .one a, sc, e, X, hc, g, σ, H, G, env, cs, W, Q, ok, er, hW, h => by
    cases e with
    | BoolOp op l p =>
      match l, hc with
      | [e1], hc1 =>
        simp only [chT] at hc1
        simp only [wpT] at h
        have q : WW X (.BoolOp op [e1] p) σ H (PB X ca G σ Q) := by
          cases op with
          | And => exact (pw_and1 (X := X) (pWT e1)).ww (sT M a hc1 g ok er hW h).1
          | Or => exact (pw_or1 (X := X) (pWT e1)).ww (sT M a hc1 g ok er hW h).1
        exact ⟨q.wt, fun _ => q⟩
    | _ => exact nomatch hc
  | .not a, sc, e, X, hc, g, σ, H, G, env, cs, W, Q, ok, er, hW, h => by
    cases e with
    | UnaryOp op l p => cases op with
      | Not =>
        simp only [chT] at hc
        simp only [wpT] at h
        refine ⟨(pt_not (X := X) (pWT l)).wt (WT.mono (sT M a hc g ok er hW h).1 fun k H1 q1 => q1), fun z => ?_⟩
        obtain ⟨_, _, _, z⟩ := z
        cases z
      | _ => exact nomatch hc
    | _ => exact nomatch hc
theorem sC (M : Mono Φ) : ∀ (c : Co) {sc : Scope} {l : List Expr} {X : Cx}, chC P N sc c l = true → Gd P N Φ ca fa lv X sc → ∀ {σ : L2.St} {H G : Hp} {env : Env} {cs : CS} {W : WT} {Q : Bool → Env → CS → Prop}, Ok X.K ca G H cs → EnvR X.K ca G env σ → WOk X ca G W →
    wpC P Φ c env cs W Q → WTs X l σ H (PB X ca G σ Q)
  | .none, sc, l, X, hc, g, σ, H, G, env, cs, W, Q, ok, er, hW, h => by
    cases l with
    | cons _ _ => exact nomatch hc
    | nil =>
      simp only [wpC] at h
      exact fun pins s I => (pts_nil (X := X)).run pins s σ H _ I ⟨G, env, cs, Same.refl _, ok, er, h⟩
  | .some c, sc, l, X, hc, g, σ, H, G, env, cs, W, Q, ok, er, hW, h => by
    match l, hc with
    | [a], hc =>
      simp only [chC] at hc
      simp only [wpC] at h
      exact fun pins s I => (pts_one (X := X) (pWT a)).run pins s σ H _ I (sT M c hc g ok er hW h).1
theorem sR (M : Mono Φ) : ∀ (sr : Sr) {sc : Scope} {e : Expr} {X : Cx}, chR P N sc sr e = true → Gd P N Φ ca fa lv X sc → ∀ (tg : Expr) {σ : L2.St} {H G : Hp} {env : Env} {cs : CS} {W : WT} {Q : List D → Env → CS → Prop}, Ok X.K ca G H cs → EnvR X.K ca G env σ → WOk X ca G W →
    wpR P Φ sr env cs W Q → WI X tg e σ H (PI' X ca G σ Q)
  | .it ex, sc, e, X, hc, g, tg, σ, H, G, env, cs, W, Q, ok, er, hW, h => by
    simp only [chR, Bool.and_eq_true] at hc
    simp only [wpR] at h
    intro pins s I
    refine thn ((sE M ex hc.2 g ok er hW h) pins s I) fun v s1 ⟨x1, H1, I1, rv1, q1⟩ => ?_
    obtain ⟨G1, env1, cs1, d1, t1, ok1, er1, w1, h1⟩ := q1.tree
    split at h1
    · rename_i ds hd
      exact iter_ok ok1.sub w1 hd I1 rv1 fun J hJ => ⟨G1, env1, cs1, ds, t1, ok1, er1, hJ, h1⟩
    · exact h1.elim
  | .rng1 ex, sc, e, X, hc, g, tg, σ, H, G, env, cs, W, Q, ok, er, hW, h => by
    cases e with
    | Call fn l kws p =>
      match fn, l, kws, hc with
      | .Name x q, [a], [], hc =>
        simp only [chR, Bool.and_eq_true, decide_eq_true_eq] at hc
        obtain ⟨rfl, c0, c1, c2⟩ := hc
        simp only [wpR] at h
        obtain ⟨n1, n2, n3, n4⟩ := bname_of c0
        refine (pi_range1 (X := X) (tg := tg) (g.gl n1) (g.fx.free _ n3) (pa_cons (pWE a) pa_nil (starEach_cons c1)) (starEach_cons c1)).wi ((sE M ex c2 g ok er hW h).mono fun v1 H1 q1 => ?_)
        obtain ⟨G1, env1, cs1, d1, t1, ok1, er1, w1, h1⟩ := q1.tree
        split at h1
        · rename_i j
          cases w1
          exact ⟨j, rfl, h1.1.1, h1.1.2, G1, env1, cs1, _, t1, ok1, er1, itOk_rng, h1.2⟩
        · exact h1.elim
    | _ => exact nomatch hc
  | .rng2 ex ey, sc, e, X, hc, g, tg, σ, H, G, env, cs, W, Q, ok, er, hW, h => by
    cases e with
    | Call fn l kws p =>
      match fn, l, kws, hc with
      | .Name x q, [a, b], [], hc =>
        simp only [chR, Bool.and_eq_true, decide_eq_true_eq] at hc
        obtain ⟨rfl, c0, c1, c2, c3, c4⟩ := hc
        simp only [wpR] at h
        obtain ⟨n1, n2, n3, n4⟩ := bname_of c0
        refine (pi_range2 (X := X) (tg := tg) (g.gl n1) (g.fx.free _ n3) (pa_cons (pWE a) (pa_cons (pWE b) pa_nil (starEach_cons c2)) (starEach_cons c1)) (by rw [starEach_cons c1, starEach_cons c2]; rfl) (starEach_cons c2)).wi ((sE M ex c3 g ok er hW h).mono fun v1 H1 q1 => ?_)
        obtain ⟨G1, env1, cs1, d1, t1, ok1, er1, w1, h1⟩ := q1.tree
        refine (sE M ey c4 g ok1 er1 (hW.mono t1) h1).mono fun v2 H2 q2 => ?_
        obtain ⟨G2, env2, cs2, d2, t2, ok2, er2, w2, h2⟩ := q2.tree
        split at h2
        · rename_i i j
          cases w1
          cases w2
          exact ⟨i, j, rfl, h2.1, G2, env2, cs2, _, t1.trans t2, ok2, er2, itOk_rng, h2.2⟩
        · exact h2.elim
    | _ => exact nomatch hc
end
end
end Dw
set_option Elab.async false
set_option linter.all false
set_option maxRecDepth 100000
set_option maxHeartbeats 4000000
/-! Statements. -/
namespace Dw
open PySem PySem.Spec PyProof.Rows L2

structure Gs (P : Pg) (N : List Str) (Φ : PhT) (ca fa : Nat → Addr) (lv : Nat) (X : Cx) (sc : Scope) : Prop extends Gd P N Φ ca fa lv X sc where
  pass : PassesOwn (model X.prog X.w) X.A X.env X.xe
  fnc : ∀ x, X.fn x = true
  fnk : X.env.scope.kind = .function
/-- behind a statement -/
def EE (X : Cx) (ca : Nat → Addr) (G : Hp) (k : Kd) : Ends where
  nx := PT' X ca G k.nx
  rt := fun v H' => ∃ G' cs' d fr, Same G G' ∧ Ok X.K ca G' H' cs' ∧ RepR X.K ca G' H' cs' d fr v ∧ k.rt d fr cs'
  bk := PT' X ca G k.bk
  ct := PT' X ca G k.ct
theorem WS.mono {X : Cx} {st : Stmt} {D D' : Ends} {σ : L2.St} {H : Hp} (h : WS X st D σ H) (n : ∀ σ H, D.nx σ H → D'.nx σ H) (r : ∀ v H, D.rt v H → D'.rt v H) (b : ∀ σ H, D.bk σ H → D'.bk σ H) (c : ∀ σ H, D.ct σ H → D'.ct σ H) : WS X st D' σ H :=
  fun pins s I => thn (h pins s I) fun f s' q => Dw.SP.mono (D := D) (D' := D') q n r b c
theorem WSs.mono {X : Cx} {st : List Stmt} {D D' : Ends} {σ : L2.St} {H : Hp} (h : WSs X st D σ H) (n : ∀ σ H, D.nx σ H → D'.nx σ H) (r : ∀ v H, D.rt v H → D'.rt v H) (b : ∀ σ H, D.bk σ H → D'.bk σ H) (c : ∀ σ H, D.ct σ H → D'.ct σ H) : WSs X st D' σ H :=
  fun pins s I => thn (h pins s I) fun f s' q => Dw.SP.mono (D := D) (D' := D') q n r b c
section
variable {X : Cx} {ca : Nat → Addr} {G G1 H : Hp} {σ : L2.St} {k : Kd}
theorem rt_lift {k : Kd} {v : V} (s : Same G G1) (h : (EE X ca G1 k).rt v H) : (EE X ca G k).rt v H := by
  obtain ⟨G', cs', d, fr, s2, r⟩ := h
  exact ⟨G', cs', d, fr, s.trans s2, r⟩
theorem WS.lift {st : Stmt} (s : Same G G1) (h : WS X st (EE X ca G1 k) σ H) : WS X st (EE X ca G k) σ H :=
  h.mono (fun _ _ q => PT'.lift s q) (fun _ _ q => rt_lift s q) (fun _ _ q => PT'.lift s q) (fun _ _ q => PT'.lift s q)
theorem WSs.lift {st : List Stmt} (s : Same G G1) (h : WSs X st (EE X ca G1 k) σ H) : WSs X st (EE X ca G k) σ H :=
  h.mono (fun _ _ q => PT'.lift s q) (fun _ _ q => rt_lift s q) (fun _ _ q => PT'.lift s q) (fun _ _ q => PT'.lift s q)
end
section
variable {P : Pg} {N : List Str} {Φ : PhT} {ca fa : Nat → Addr} {lv : Nat}
theorem chG_ns {dl : Bool} {sc : Scope} {t : Tg} {a : Expr} (h : chG P N dl sc t a = true) : notStar a = true := by
  cases a with
  | Starred _ _ => cases t <;> exact nomatch h
  | _ => rfl
theorem tLc_mono {g : TG} {tt : TT} {te : TE} {vs : List Nat} {σ : L2.St} {H : Hp} {X : Cx} {t it : Expr} {Q Q' : VK} (f : ∀ v H, Q v H → Q' v H) (h : tLc (WI X t it) g tt te vs σ H Q) : tLc (WI X t it) g tt te vs σ H Q' :=
  WI.mono h fun J H1 q D hD => by
    obtain ⟨W, m, w⟩ := q D hD
    exact ⟨W, m, fun i m H hw => (w i m H hw).imp (fun ⟨a, b⟩ => ⟨a, f _ _ b⟩) id⟩
mutual
/-- targets -/
theorem sG (M : Mono Φ) : ∀ (t : Tg) {sc : Scope} {e : Expr} {X : Cx}, chG P N true sc t e → Gd P N Φ ca fa lv X sc → (∀ x, X.fn x = true) → ∀ {σ : L2.St} {H G : Hp} {env : Env} {cs : CS} {W : WT} {k : KT} {d : D} {v : V}, Ok X.K ca G H cs → EnvR X.K ca G env σ → WOk X ca G W → Rep X.K ca G d v →
    wpG P Φ t d env cs W k → WG X e v σ H (PT' X ca G k)
  | .nm i, sc, e, X, hc, g, fc, σ, H, G, env, cs, W, k, d, v, ok, er, hW, w, h => by
    cases e with
    | Name x p =>
      simp only [chG, Bool.and_eq_true, decide_eq_true_eq] at hc
      obtain ⟨c1, c2⟩ := hc
      have hl : Loc X.env.scope x := by
        rw [g.hsc]
        split at c2
        · exact .inl (by assumption)
        · exact .inr (by assumption)
        · cases c2
      simp only [wpG] at h
      exact (pg_name (X := X) (by rw [g.hN]; exact g.nd) (by rw [g.hN]; exact c1) hl (.inl (fc x))).wg ⟨G, _, cs, Same.refl _, ok, er.set w, h⟩
    | _ => exact nomatch hc
  | .tup ts, sc, e, X, hc, g, fc, σ, H, G, env, cs, W, k, d, v, ok, er, hW, w, h => by
    cases e with
    | Tuple l kx p =>
      simp only [chG] at hc
      simp only [wpG] at h
      split at h
      · rename_i xs hx
        obtain ⟨n1, n2⟩ := assignEach_len (env := X.env) (chGs_len hc)
        have r := dv_rep ok w
        rw [hx] at r
        obtain ⟨a, vs, rfl, h1, h2⟩ := r
        refine (pg_tup (X := X) (n := l.length) g.calm (pWGs l) n1 n2).wg ⟨a, vs, rfl, h1, ?_, sGs M ts hc g fc ok er hW h2 h.2⟩
        rw [chGs_ln hc, h.1, h2.length]
      · exact h.elim
    | _ => exact nomatch hc
  | .sub o i, sc, e, X, hc, g, fc, σ, H, G, env, cs, W, k, d, v, ok, er, hW, w, h => by
    cases e with
    | Subscript eo ei p =>
      simp only [chG, Bool.and_eq_true] at hc
      obtain ⟨c0, c1, c2⟩ := hc
      simp only [wpG] at h
      refine (pg_sub (X := X) (pWE eo) (pWE ei) set_list (fun v => assign_sub c0 v)).wg ((sE M o c1 g ok er hW h).mono fun v1 H1 q1 => ?_)
      obtain ⟨G1, env1, cs1, d1, t1, ok1, er1, w1, h1⟩ := q1.tree
      refine (sE M i c2 g ok1 er1 (hW.mono t1) h1).mono fun v2 H2 q2 => ?_
      obtain ⟨G2, env2, cs2, d2, t2, ok2, er2, w2, h2⟩ := q2.tree
      have wd := (w.mono t1).mono t2
      unfold setW at h2
      split at h2
      · rename_i a j
        split at h2
        · rename_i xs hx
          split at h2
          · rename_i j' hj
            have w1' := w1.mono t2
            cases w1'
            cases w2
            obtain ⟨k1, vs, k2, k3⟩ := ok2.cel _ _ hx
            refine ⟨a, vs, j, j', rfl, rfl, k2, by rw [← k3.length]; exact hj, G2, env2, _, t1.trans t2, ok2.write (o := .lst (xs.set j' d)) k1 ⟨_, upd_same, k3.set j' wd⟩, er2, h2⟩
          · exact h2.elim
        · exact h2.elim
      · exact h2.elim
    | _ => exact nomatch hc
  | .fld o f, sc, e, X, hc, g, fc, σ, H, G, env, cs, W, k, d, v, ok, er, hW, w, h => by
    cases e with
    | Attribute eo f' p =>
      simp only [chG, Bool.and_eq_true, decide_eq_true_eq] at hc
      obtain ⟨rfl, c0, c1⟩ := hc
      simp only [wpG] at h
      intro pins s u I ru
      rw [arm_assign_Attribute]
      refine wpAny_bind (wpAny_holding (thn ((sE M o c1 g ok er hW h) pins s I) fun ov s1 ⟨x1, H1, I1, rv1, q1⟩ => ?_))
      obtain ⟨G1, env1, cs1, d1, t1, ok1, er1, w1, h1⟩ := q1.tree
      refine wpAny_bind (wpAny_standAt (wpAny_bind (wpAny_holding ?_)))
      unfold sfW at h1
      split at h1
      · rename_i a
        split at h1
        · rename_i c fs hx
          obtain ⟨hF, hz, h1⟩ := h1
          cases w1
          cases rv1
          obtain ⟨k1, dx, vs, k2, k3⟩ := ok1.cel _ _ hx
          obtain ⟨ci, hci⟩ : ∃ ci, P.cls[c]? = some ci := by
            unfold Pg.isF at hF
            cases e : P.cls[c]? with
            | none => rw [e] at hF; cases hF
            | some ci => exact ⟨ci, rfl⟩
          refine setattr_ok I1 k2 (g.fx.cls c ci hci) (g.fx.fld c f hF) (by rw [← k3.len]; exact hz) ru fun s' I' => ?_
          exact wpAny_release ⟨σ, _, I', G1, env1, _, t1, ok1.write (o := .ins c (putE f d fs)) k1 ⟨dx, _, upd_same, RepF.put (w.mono t1) k3⟩, er1, h1⟩
        · exact h1.elim
      · exact h1.elim
    | _ => exact nomatch hc
theorem sGs (M : Mono Φ) : ∀ (ts : Tgs) {sc : Scope} {l : List Expr} {X : Cx}, chGs P N true sc ts l → Gd P N Φ ca fa lv X sc → (∀ x, X.fn x = true) → ∀ {σ : L2.St} {H G : Hp} {env : Env} {cs : CS} {W : WT} {k : KT} {ds : List D} {vs : List V}, Ok X.K ca G H cs → EnvR X.K ca G env σ → WOk X ca G W → RepL X.K ca G ds vs →
    wpGs P Φ ts ds env cs W k → WGs X l vs σ H (PT' X ca G k)
  | .nil, sc, l, X, hc, g, fc, σ, H, G, env, cs, W, k, ds, vs, ok, er, hW, w, h => by
    cases l with
    | cons _ _ => exact nomatch hc
    | nil =>
      cases w with
      | cons _ _ => simp only [wpGs] at h
      | nil =>
        simp only [wpGs] at h
        exact (pgs_nil (X := X)).wg ⟨rfl, G, env, cs, Same.refl _, ok, er, h⟩
  | .cons t ts, sc, l, X, hc, g, fc, σ, H, G, env, cs, W, k, ds, vs, ok, er, hW, w, h => by
    cases l with
    | nil => exact nomatch hc
    | cons a l =>
      simp only [chGs, Bool.and_eq_true] at hc
      cases w with
      | nil => simp only [wpGs] at h
      | cons w r =>
        simp only [wpGs] at h
        refine (pgs_cons (X := X) (pWG a) (pWGs l) (by rw [assignEach_cons hc.1]; rfl)).wg ⟨_, _, rfl, (sG M t hc.2.1 g fc ok er hW w h).mono fun σ1 H1 q => ?_⟩
        obtain ⟨G1, env1, cs1, s1, ok1, er1, h1⟩ := q
        exact WGs.mono (sGs M ts hc.2.2 g fc ok1 er1 (hW.mono s1) (r.mono s1) h1) fun σ2 H2 q => q.lift s1
end

theorem cel_of {sc : Scope} {x : Str} (h : cel sc x = true) : sc.names.lookup x = some .cell := by
  unfold cel at h
  split at h <;> first | assumption | cases h
theorem swaps_celN {sc : Scope} {a b : Expr} {l : Nat} {env : PySem.Env} (hs : env.scope = sc) (h : celN sc a = true) : swapsWith b (some a) l env = pure false := by
  unfold celN at h
  split at h
  · rename_i y py
    have hk : env.kindOf y = some .cell := by show env.scope.names.lookup y = _; rw [hs]; exact cel_of h
    have hn : (env.kindOf y == some .local) = false := by rw [hk]; rfl
    cases b <;> first
      | rfl
      | (unfold swapsWith; simp only [hn, Bool.and_false, Bool.false_and]; done)
      | (unfold swapsWith; simp only [hn, Bool.and_false, Bool.false_and]; rfl)
  · cases h
theorem swapStores_celT {sc : Scope} {a b : Expr} {env : PySem.Env} (hs : env.scope = sc) (h : celT sc a = true) : swappedStores [a] b env = pure none := by
  unfold celT at h
  split at h
  · rename_i x px y py k p
    have hk : (env.kindOf x == some .local) = false ∨ (env.kindOf y == some .local) = false := by
      rw [Bool.or_eq_true] at h
      rcases h with h | h
      · left; rw [show env.kindOf x = some .cell by show env.scope.names.lookup x = _; rw [hs]; exact cel_of h]; rfl
      · right; rw [show env.kindOf y = some .cell by show env.scope.names.lookup y = _; rw [hs]; exact cel_of h]; rfl
    have hl : ∀ line : Nat, ([Expr.Name x px, Expr.Name y py].filterMap fun
        | .Name id pos => if env.kindOf id == some .local && pos.line == line then some id else none
        | _ => none).length ≤ 1 := fun line => by
      simp only [List.filterMap_cons, List.filterMap_nil]
      rcases hk with hk | hk
      · simp only [hk, Bool.false_and, Bool.false_eq_true, if_false]
        split <;> simp
      · simp only [hk, Bool.false_and, Bool.false_eq_true, if_false]
        split <;> simp
    cases b with
    | Tuple vs kt pt =>
      unfold swappedStores
      dsimp only
      split
      · rfl
      · split
        · rfl
        · split
          · rfl
          · rename_i z
            exfalso
            apply z
            rw [Bool.or_eq_true]
            left
            rw [bne_iff_ne]
            intro e
            exact absurd (Nat.le_trans (Nat.le_of_eq e.symm) (hl (([Expr.Name x px, Expr.Name y py].head?.map (·.pos.line)).getD 0))) (show ¬ (2 ≤ 1) by decide)
    | _ => rfl
  · cases h
theorem swp_of {sc : Scope} {a b : Expr} (h : swp sc a b = true) : ∃ y py e1 gs scope p, a = .Name y py ∧ b = .ListComp e1 gs scope p := by
  unfold swp at h
  split at h
  · exact ⟨_, _, _, _, _, _, rfl, rfl⟩
  · cases h
theorem chS_par {sc : Scope} {i j : Nat} {a b : Ex} {e : Stmt} (h : chS P N sc (.par i j a b) e = true) : ∃ x y px py kt pt e1 e2 k2 pt2 p, e = .Assign [.Tuple [.Name x px, .Name y py] kt pt] (.Tuple [e1, e2] k2 pt2) p ∧
    N[i]? = some x ∧ N[j]? = some y ∧ parOk sc x y px py e1 e2 = true ∧ chE P N sc a e1 = true ∧ chE P N sc b e2 = true := by
  unfold chS at h
  split at h
  all_goals first
    | (cases h; done)
    | (rename_i hq; cases hq; done)
    | skip
  · rename_i hq
    cases hq
    simp only [Bool.and_eq_true, decide_eq_true_eq] at h
    obtain ⟨h1, h2, h3, h4, h5⟩ := h
    exact ⟨_, _, _, _, _, _, _, _, _, _, _, rfl, h1, h2, h3, h4, h5⟩
theorem swapped_par {sc : Scope} {x y : Str} {px py pt pt2 : Pos} {kt k2} {a b : Expr} {env : PySem.Env} (hs : env.scope = sc) (hk : env.scope.kind = .function) (h : parOk sc x y px py a b = true) :
    swappedStores [.Tuple [.Name x px, .Name y py] kt pt] (.Tuple [a, b] k2 pt2) env = pure (some [x, y]) := by
  unfold parOk at h
  simp only [Bool.and_eq_true, Bool.not_eq_true', decide_eq_false_iff_not] at h
  obtain ⟨h1, h2, h3, h4, h5, h6, h7, h8⟩ := h
  have l1 : env.kindOf x = some .local := by
    show env.scope.names.lookup x = _
    rw [hs]
    unfold loc at h1
    split at h1 <;> first | assumption | cases h1
  have l2 : env.kindOf y = some .local := by
    show env.scope.names.lookup y = _
    rw [hs]
    unfold loc at h2
    split at h2 <;> first | assumption | cases h2
  have bk : env.blockKind = .function := by unfold Env.blockKind; rw [hk]; rfl
  have st : ([a, b].any fun | .Starred .. => true | _ => false) = false := by
    cases a <;> first
      | (cases h5; done)
      | (cases b <;> first | rfl | (cases h6; done))
  have h3' : (y == x) = false := by simpa using fun e => h3 e.symm
  unfold swappedStores
  have ln : ((Expr.Name x px).pos.line) = px.line := rfl
  simp only [List.length_cons, List.length_nil, bk, List.head?_cons, Option.map_some, Option.getD_some, ln]
  have ed : ([x, y] : List Str).eraseDups.length = 2 := by
    have hxy : (x == y) = false := by simpa using h3
    simp [List.eraseDups, List.eraseDupsBy, List.eraseDupsBy.loop, h3', hxy]
  refine (if_neg (by decide)).trans ?_
  refine (if_neg ?_).trans ?_
  · intro z
    exact Bool.false_ne_true (st.symm.trans z)
  simp only [List.filterMap_cons, List.filterMap_nil, l1, l2, h4, beq_self_eq_true, Bool.and_self, if_true]
  rw [if_neg (by rw [ed]; simp), if_neg (by rw [h7]; exact Bool.false_ne_true), if_neg (by rw [h8]; exact Bool.false_ne_true)]
theorem chS_app {sc : Scope} {i : Nat} {ex : Ex} {e : Stmt} (h : chS P N sc (.app i ex) e = true) :
    ∃ x q m ap a cp p, e = .Expr (.Call (.Attribute (.Name x q) m ap) [a] [] cp) p ∧ m = ("append" : Str) ∧ N[i]? = some x ∧ vis sc x = true ∧ nsp x = true ∧ (ap.endLine == cp.line) = true ∧ notStar a = true ∧ chE P N sc ex a = true := by
  unfold chS at h
  split at h
  all_goals first
    | (cases h; done)
    | (rename_i hq; cases hq; done)
    | skip
  rename_i hq
  cases hq
  simp only [Bool.and_eq_true, decide_eq_true_eq] at h
  obtain ⟨h0, h1, h2, h3, h4, h5, h6⟩ := h
  exact ⟨_, _, _, _, _, _, _, rfl, h0, h1, h2, h3, h4, h5, h6⟩
theorem lc_ex {sc : Scope} {e : Ex} {e1 : Expr} {gs : List Comprehension} {scope : Scope} {p : Pos} (h : chE P N sc e (.ListComp e1 gs scope p) = true) :
    ∃ own tg src cond elt t it ifs, e = .lc own tg src cond elt ∧ gs = [⟨t, it, ifs, 0⟩] ∧ blkC N sc scope own = true ∧ tgOwn (own.map (·.2)) tg = true ∧ chR P N sc src it = true ∧ chG P N false (relS scope sc) tg t = true ∧ chC P N (relS scope sc) cond ifs = true ∧ chE P N (relS scope sc) elt e1 = true := by
  cases e with
  | lc own tg src cond elt =>
    match gs, h with
    | [⟨t, it, ifs, 0⟩], h =>
      simp only [chE, Bool.and_eq_true] at h
      obtain ⟨c0, c1, c2, c3, c4, c5⟩ := h
      exact ⟨_, _, _, _, _, _, _, _, rfl, rfl, c0, c1, c2, c3, c4, c5⟩
  | new ex => simp only [chE, isComp, Bool.not_true, Bool.false_and] at h; cases h
  | bi b es => rcases chE_bi h with ⟨_, _, _, _, _, _, _, _, _, _, z, _⟩ | ⟨_, _, _, _, _, _, _, _, _, _, z, _⟩ | ⟨_, _, _, _, _, _, z, _⟩ <;> cases z
  | _ => exact nomatch h
/-- name = [..] -/
theorem set_lc (M : Mono Φ) {sc : Scope} {e : Ex} {e1 : Expr} {gs : List Comprehension} {scope : Scope} {p q sp : Pos} {y : Str} {i : Nat} {X : Cx} (hc : chE P N sc e (.ListComp e1 gs scope p) = true) (g : Gs P N Φ ca fa lv X sc) (hsw : swp sc (.Name y q) (.ListComp e1 gs scope p) = true) (hN : N[i]? = some y)
    {σ : L2.St} {H G : Hp} {env : Env} {cs : CS} {W : WT} {Q : QT} {D : Ends} (ok : Ok X.K ca G H cs) (er : EnvR X.K ca G env σ) (hW : WOk X ca G W) (h : wpE P Φ e env cs W Q) (hD : ∀ v H', PQ X ca G σ Q v H' → D.nx (σ.set i (some v)) H') :
    WS X (.Assign [.Name y q] (.ListComp e1 gs scope p) sp) D σ H := by
  obtain ⟨own, tg, src, cond, elt, t, it, ifs, rfl, rfl, c0, c1, c2, c3, c4, c5⟩ := lc_ex hc
  simp only [wpE] at h
  unfold swp at hsw
  simp only [Bool.and_eq_true, Bool.not_eq_true'] at hsw
  obtain ⟨s1, s2, s3⟩ := hsw
  have hl : X.env.scope.names.lookup y = some .local := by
    rw [g.hsc]
    unfold loc at s1
    split at s1
    · assumption
    · cases s1
  refine (ps_setLc (X := X) (i := i) (wi := WI X t it) (g := WBG X scope t) (tt := WBTs X scope ifs) (te := WBE X scope e1) (own := own) g.calm (by rw [g.hN]; exact g.nd) (by rw [g.hN]; exact hN) hl (sw_true g.fnk hl s2 s3)
    (pWI t it) (by rw [g.hN, g.hsc]; exact blkOk_by c0) (fun s0 H0 C cl fp => ⟨fun pins s' σ H' v u Q I r h => h s0 H0 C cl fp pins s' u I r⟩) (fun s0 H0 C cl fp => ⟨fun pins s' σ H' Q I h => h s0 H0 C cl fp pins s' I⟩)
    (fun s0 H0 C cl fp => ⟨fun pins s' σ H' Q I h => h s0 H0 C cl fp pins s' I⟩) (folded_chR c2)).ws ?_
  have q := lc_of (e1 := e1) (Q := Q) g.toGd c1 c3 (sR M src c2 g.toGd t ok er hW h) (fun s0 H0 C cl fp σ H G env cs Q ok er h => sC M cond c4 (g.toGd.blk s0 H0 scope cl C fp) ok er WOk.never h) (fun s0 H0 C cl fp σ H G env cs Q ok er h => sE M elt c5 (g.toGd.blk s0 H0 scope cl C fp) ok er WOk.never h)
  exact tLc_mono hD q
mutual
theorem sS (M : Mono Φ) : ∀ (st : Sm) {sc : Scope} {e : Stmt} {X : Cx}, chS P N sc st e = true → Gs P N Φ ca fa lv X sc → ∀ {σ : L2.St} {H G : Hp} {env : Env} {cs : CS} {W : WT} {k : Kd}, Ok X.K ca G H cs → EnvR X.K ca G env σ → WOk X ca G W →
    wpS P Φ st env cs W k → WS X e (EE X ca G k) σ H
  | .pass, sc, e, X, hc, g, σ, H, G, env, cs, W, k, ok, er, hW, h => by
    cases e with
    | Pass p =>
      simp only [wpS] at h
      exact (ps_pass (X := X)).ws ⟨G, env, cs, Same.refl _, ok, er, h⟩
    | _ => exact nomatch hc
  | .brk, sc, e, X, hc, g, σ, H, G, env, cs, W, k, ok, er, hW, h => by
    cases e with
    | Break p =>
      simp only [wpS] at h
      exact (ps_break (X := X)).ws ⟨G, env, cs, Same.refl _, ok, er, h⟩
    | _ => exact nomatch hc
  | .cont, sc, e, X, hc, g, σ, H, G, env, cs, W, k, ok, er, hW, h => by
    cases e with
    | Continue p =>
      simp only [wpS] at h
      exact (ps_continue (X := X)).ws ⟨G, env, cs, Same.refl _, ok, er, h⟩
    | _ => exact nomatch hc
  | .expr ex, sc, e, X, hc, g, σ, H, G, env, cs, W, k, ok, er, hW, h => by
    cases e with
    | Expr a p =>
      simp only [chS, Bool.and_eq_true, Bool.not_eq_true'] at hc
      simp only [wpS] at h
      refine (ps_expr (X := X) (pWE a) (swaps_of hc.1)).ws ((sE M ex hc.2 g.toGd ok er hW h).mono fun v1 H1 q1 => ?_)
      obtain ⟨G1, env1, cs1, d1, t1, ok1, er1, w1, h1⟩ := q1.tree
      exact ⟨G1, env1, cs1, t1, ok1, er1, h1⟩
    | _ => exact nomatch hc
  | .app i ex, sc, e, X, hc, g, σ, H, G, env, cs, W, k, ok, er, hW, h => by
    obtain ⟨x, q, m, ap, a, cp, p, rfl, rfl, c1, c2, c3, c4, c5, c6⟩ := chS_app hc
    simp only [wpS] at h
    split at h
    · rename_i ad he
      obtain ⟨⟨xs0, hx0⟩, h⟩ := h
      refine (ps_expr (X := X) (pWE _) (swaps_of rfl)).ws ?_
      intro pins s I
      refine wpAny_Call_method_late (attrBase rfl) (form_of (kws := []) (l := [a]) (by simp only [List.all_cons, c5]; rfl) rfl (by show 1 + 0 < 20; omega)) c4 rfl (thn (we_name (R := fun v H' => v = .ref ad ∧ H' = H) g.toGd c1 c2 c3 er he (fun v _ r => by cases r; exact ⟨rfl, rfl⟩) pins s I) fun v s1 ⟨x1, H1, I1, rv1, e1, e2⟩ => ?_)
      subst e1
      subst e2
      cases rv1
      obtain ⟨k1, vs0, k2, k3⟩ := ok.cel _ _ hx0
      obtain ⟨y1, y2⟩ := tyV_is (T := "list") I1 (show RelV (.ref ad) (.ref ad) from rfl) (.inl ⟨rfl, vs0, SqL.of k2⟩)
      refine ⟨"list", "list.append", PySem.F.plainAttrs_list, PySem.F.slot_list_append, PySem.F.type_list_append, y1, y2, ?_⟩
      have hA : WA X [a] σ H1 (fun vs H1 => ∃ v, vs = [v] ∧ PQ X ca G σ (fun d _ env1 cs1 => appW ad d cs1 (k.nx env1)) v H1) := (pa_cons (X := X) (pWE a) pa_nil (starEach_cons c5)).wa ((sE M ex c6 g.toGd ok er hW h).mono fun v H1 q => ⟨v, rfl, q⟩)
      have hA := hA cp pins s1 I1
      rw [starEach_cons c5] at hA ⊢
      refine Calls.callWith_builtin rfl (Calls.evalArgs_plain (thn hA fun us s2 ⟨vs, H2, I2, rv2, v, e, q⟩ => ?_))
      subst e
      obtain ⟨G1, env1, cs1, d1, t1, ok1, er1, w1, h1⟩ := q.tree
      unfold appW at h1
      split at h1
      · rename_i xs hx
        obtain ⟨l1, vs, l2, l3⟩ := ok1.cel _ _ hx
        exact mt_append pins s2 σ H2 (.ref ad) [v] _ us _ I2 rfl rv2 ⟨ad, vs, v, rfl, rfl, l2, by rw [← l3.length]; exact h1.1, ⟨G1, env1, _, t1, ok1.write (o := .lst (xs ++ [d1])) l1 ⟨_, upd_same, l3.append (.cons w1 .nil)⟩, er1, h1.2⟩⟩
      · exact h1.elim
    · exact h.elim
  | .ret ex, sc, e, X, hc, g, σ, H, G, env, cs, W, k, ok, er, hW, h => by
    cases e with
    | Return o p =>
      cases o with
      | none => exact nomatch hc
      | some a =>
        simp only [chS] at hc
        simp only [wpS] at h
        refine (ps_ret (X := X) (pWE a)).ws ((sE M ex hc g.toGd ok er hW h).mono fun v1 H1 q1 => ?_)
        obtain ⟨G1, env1, cs1, d1, fr, t1, ok1, er1, w1, h1⟩ := q1
        exact ⟨G1, cs1, d1, fr, t1, ok1, w1, h1⟩
    | _ => exact nomatch hc
  | .retN, sc, e, X, hc, g, σ, H, G, env, cs, W, k, ok, er, hW, h => by
    cases e with
    | Return o p =>
      cases o with
      | some _ => exact nomatch hc
      | none =>
        simp only [wpS] at h
        exact (ps_retN (X := X)).ws ⟨G, cs, .non, false, Same.refl _, ok, Rep.non.r, h⟩
    | _ => exact nomatch hc
  | .asg t ex, sc, e, X, hc, g, σ, H, G, env, cs, W, k, ok, er, hW, h => by
    cases e with
    | Assign l b p =>
      match l, hc with
      | [a], hc =>
        simp only [chS, Bool.and_eq_true] at hc
        obtain ⟨c0, c1, c2, c3⟩ := hc
        simp only [wpS] at h
        cases hb : isComp b with
        | false =>
          have c1' : swappedStores [a] b X.env = pure none := by
            rcases Bool.or_eq_true_iff.mp c1 with c1 | c1
            · exact swapStores_of c1
            · exact swapStores_celT g.hsc c1
          refine (ps_asg (X := X) (pWE b) (pWG a) (swaps_of hb) c1' (assignEach1 (chG_ns c2))).ws ((sE M ex c3 g.toGd ok er hW h).mono fun v1 H1 q1 => ?_)
          obtain ⟨G1, env1, cs1, d1, t1, ok1, er1, w1, h1⟩ := q1.tree
          exact WG.mono (sG M t c2 g.toGd g.fnc ok1 er1 (hW.mono t1) w1 h1) fun σ2 H2 q => PT'.lift t1 q
        | true =>
          rw [hb] at c0
          have c0 : (swp sc a b || celN sc a) = true := c0
          rcases Bool.or_eq_true_iff.mp c0 with c0 | c0
          case inr =>
            have c1' : swappedStores [a] b X.env = pure none := by
              rcases Bool.or_eq_true_iff.mp c1 with c1 | c1
              · exact swapStores_of c1
              · exact swapStores_celT g.hsc c1
            refine (ps_asg (X := X) (pWE b) (pWG a) (swaps_celN g.hsc c0) c1' (assignEach1 (chG_ns c2))).ws ((sE M ex c3 g.toGd ok er hW h).mono fun v1 H1 q1 => ?_)
            obtain ⟨G1, env1, cs1, d1, t1, ok1, er1, w1, h1⟩ := q1.tree
            exact WG.mono (sG M t c2 g.toGd g.fnc ok1 er1 (hW.mono t1) w1 h1) fun σ2 H2 q => PT'.lift t1 q
          obtain ⟨y, py, e1, gs, scope, p2, rfl, rfl⟩ := swp_of c0
          cases t with
          | nm i =>
            have hN : N[i]? = some y := by
              simp only [chG, Bool.and_eq_true, decide_eq_true_eq] at c2
              exact c2.1
            refine set_lc M c3 g c0 hN ok er hW h fun v H' q => ?_
            obtain ⟨G1, env1, cs1, d1, t1, ok1, er1, w1, h1⟩ := q.tree
            simp only [wpG] at h1
            exact ⟨G1, _, cs1, t1, ok1, er1.set w1, h1⟩
          | _ => exact nomatch c2
    | _ => exact nomatch hc
  | .par i j a b, sc, e, X, hc, g, σ, H, G, env, cs, W, k, ok, er, hW, h => by
    obtain ⟨x, y, px, py, kt, pt, e1, e2, k2, pt2, p, rfl, c1, c2, c3, c4, c5⟩ := chS_par hc
    simp only [wpS] at h
    have hc3 := c3
    unfold parOk at c3
    simp only [Bool.and_eq_true, Bool.not_eq_true', decide_eq_false_iff_not] at c3
    obtain ⟨l1, l2, hxy, _, n1, n2, _, _⟩ := c3
    have loc_of : ∀ {z : Str}, loc sc z = true → X.env.scope.names.lookup z = some .local := fun {z} hz => by
      rw [g.hsc]
      unfold loc at hz
      split at hz <;> first | assumption | cases hz
    have hij : i ≠ j := fun z => hxy (by rw [z] at c1; rw [c1] at c2; exact Option.some.inj c2)
    refine (ps_par (X := X) (i := i) (j := j) g.calm (by rw [g.hN]; exact g.nd) (by rw [g.hN]; exact c1) (by rw [g.hN]; exact c2) hij (loc_of l1) (loc_of l2) (pa_cons (pWE e1) (pa_cons (pWE e2) pa_nil (starEach_cons n2)) (starEach_cons n1)) (swapped_par g.hsc g.fnk hc3)).ws ?_
    refine (sE M a c4 g.toGd ok er hW h).mono fun v1 H1 q1 => ?_
    obtain ⟨G1, env1, cs1, d1, t1, ok1, er1, w1, h1⟩ := q1.tree
    refine (sE M b c5 g.toGd ok1 er1 (hW.mono t1) h1).mono fun v2 H2 q2 => ?_
    obtain ⟨G2, env2, cs2, d2, t2, ok2, er2, w2, h2⟩ := q2.tree
    exact ⟨v1, v2, rfl, G2, _, cs2, t1.trans t2, ok2, (er2.set (w1.mono t2)).set w2, h2⟩
  | .asgN i ex, sc, e, X, hc, g, σ, H, G, env, cs, W, k, ok, er, hW, h => by
    cases e with
    | Assign l b p =>
      match l, hc with
      | [.Name x q], hc =>
        simp only [chS, Bool.and_eq_true, decide_eq_true_eq] at hc
        obtain ⟨c0, c1, c2, c3⟩ := hc
        simp only [wpS] at h
        have hD : ∀ v H', PQ X ca G σ (fun d fr env1 cs1 => match fr, d with
            | true, .lst xs => ∀ a, cs1 a = none → k.nx (env1.set i (some (.cell a))) (cset cs1 a (.lst xs))
            | true, .dic xs => ∀ a, cs1 a = none → k.nx (env1.set i (some (.cell a))) (cset cs1 a (.dic xs))
            | _, _ => False) v H' → PT' X ca G k.nx (σ.set i (some v)) H' := fun v H' q => by
          obtain ⟨G1, env1, cs1, d1, fr, t1, ok1, er1, r1, h1⟩ := q
          split at h1
          · unfold RepR at r1
            rw [if_pos rfl] at r1
            obtain ⟨a, o, rfl, e1, hG, hcs, ob⟩ := r1
            cases o <;> cases e1
            exact ⟨G1, _, _, t1, ok1.take hG ob, er1.set (.cell a), h1 a hcs⟩
          · unfold RepR at r1
            rw [if_pos rfl] at r1
            obtain ⟨a, o, rfl, e1, hG, hcs, ob⟩ := r1
            cases o <;> cases e1
            exact ⟨G1, _, _, t1, ok1.take hG ob, er1.set (.cell a), h1 a hcs⟩
          · exact h1.elim
        cases hb : isComp b with
        | false =>
          have hl : X.env.scope.names.lookup x = some .local := by
            rw [g.hsc]
            unfold loc at c2
            split at c2
            · assumption
            · cases c2
          exact (ps_asg (X := X) (pWE b) (pg_name (X := X) (i := i) (by rw [g.hN]; exact g.nd) (by rw [g.hN]; exact c1) (.inl hl) (.inr hl)) (swaps_of (t := some (.Name x q)) (l := p.line) (env := X.env) hb) (swapStores_of rfl) (assignEach1 rfl)).ws ((sE M ex c3 g.toGd ok er hW h).mono hD)
        | true =>
          rw [hb] at c0
          have c0 : swp sc (.Name x q) b = true := c0
          obtain ⟨y, py, e1, gs, scope, p2, e0, rfl⟩ := swp_of c0
          cases e0
          exact set_lc M c3 g c0 c1 ok er hW h hD
    | _ => exact nomatch hc
  | .ifs c p q, sc, e, X, hc, g, σ, H, G, env, cs, W, k, ok, er, hW, h => by
    cases e with
    | If t l r p0 =>
      simp only [chS, Bool.and_eq_true] at hc
      obtain ⟨c0, c1, c2⟩ := hc
      simp only [wpS] at h
      refine (ps_if (X := X) (pWT t) (pWSs l) (pWSs r)).ws (WT.mono (sT M c c0 g.toGd ok er hW h).1 fun b H1 q1 => ?_)
      obtain ⟨G1, env1, cs1, t1, ok1, er1, h1⟩ := q1
      cases b with
      | true =>
        rw [if_pos rfl] at h1 ⊢
        exact (sB M p c1 g ok1 er1 (hW.mono t1) h1).lift t1
      | false =>
        rw [if_neg Bool.false_ne_true] at h1 ⊢
        exact (sB M q c2 g ok1 er1 (hW.mono t1) h1).lift t1
    | _ => exact nomatch hc
  | .for_ t s body, sc, e, X, hc, g, σ, H, G, env, cs, W, k, ok, er, hW, h => by
    cases e with
    | For a b l r p0 =>
      cases r with
      | cons _ _ => exact nomatch hc
      | nil =>
        simp only [chS, Bool.and_eq_true] at hc
        obtain ⟨c0, c1, c2⟩ := hc
        simp only [wpS] at h
        refine (ps_for (X := X) g.pass g.calm (pWI a b) (pWG a) (pWSs l) (folded_chR c1)).ws ((sR M s c1 g.toGd a ok er hW h).mono fun J H1 ⟨G1, env1, cs1, its, t1, ok1, er1, it1, h1⟩ => ?_)
        refine ⟨fun i m σ H => ∃ G' env' cs', Same G1 G' ∧ Ok X.K ca G' H cs' ∧ EnvR X.K ca G' env' σ ∧ m = its.length - i ∧ forL (fun d env cs k1 => wpG P Φ t d env cs W fun env1 cs1 => wpB P Φ body env1 cs1 W { nx := k1, ct := k1, bk := k.nx, rt := k.rt }) (its.drop i) env' cs' k.nx,
          ⟨its.length, G1, env1, cs1, Same.refl _, ok1, er1, rfl, h1⟩, fun i m σ H ⟨G', env', cs', s1, ok3, er3, hm, hf⟩ => ?_⟩
        have itk := it1 i H (s1.trans ok3.sub)
        cases hi : its[i]? with
        | none =>
          refine .inl ⟨itk.2 hi, ?_⟩
          rw [List.drop_eq_nil_of_le (List.getElem?_eq_none_iff.mp hi)] at hf
          unfold forL at hf
          exact ⟨G', env', cs', t1.trans s1, ok3, er3, hf⟩
        | some d =>
          obtain ⟨j1, j2⟩ := itk.1 d hi
          have hil := (List.getElem?_eq_some_iff.mp hi).1
          have hd : its.drop i = d :: its.drop (i + 1) := by
            rw [List.drop_eq_getElem_cons hil]
            rw [(List.getElem?_eq_some_iff.mp hi).2]
          rw [hd] at hf
          unfold forL at hf
          refine .inr ⟨j1, _, fun σ' H' q => q, fun x H' yl => ?_⟩
          obtain ⟨rfl, rx⟩ := j2 x H' yl
          refine WG.mono (sG M t c0 g.toGd g.fnc ok3 er3 (hW.mono (t1.trans s1)) (rx.mono s1) hf) fun σ2 H2 q2 => ?_
          obtain ⟨G2, env2, cs2, t2, ok4, er4, h2⟩ := q2
          refine (sB M body c2 g ok4 er4 (hW.mono ((t1.trans s1).trans t2)) h2).mono (fun σ3 H3 q => ?_) (fun v H3 q => rt_lift (k := k) ((t1.trans s1).trans t2) q) (fun σ3 H3 q => PT'.lift ((t1.trans s1).trans t2) q) (fun σ3 H3 q => ?_)
          · obtain ⟨G3, env3, cs3, t3, ok5, er5, h3⟩ := q
            exact ⟨its.length - (i + 1), by omega, G3, env3, cs3, (s1.trans t2).trans t3, ok5, er5, rfl, h3⟩
          · obtain ⟨G3, env3, cs3, t3, ok5, er5, h3⟩ := q
            exact ⟨its.length - (i + 1), by omega, G3, env3, cs3, (s1.trans t2).trans t3, ok5, er5, rfl, h3⟩
    | _ => exact nomatch hc
  | .while_ c body, sc, e, X, hc, g, σ, H, G, env, cs, W, k, ok, er, hW, h => by
    cases e with
    | While t l r p0 =>
      cases r with
      | cons _ _ => exact nomatch hc
      | nil =>
        simp only [chS, Bool.and_eq_true] at hc
        obtain ⟨c0, c1⟩ := hc
        simp only [wpS] at h
        obtain ⟨n, h⟩ := h
        refine (ps_while (X := X) g.pass (pWT t) (pWSs l)).ws ⟨fun m σ H => ∃ G' env' cs', Same G G' ∧ Ok X.K ca G' H cs' ∧ EnvR X.K ca G' env' σ ∧ whN (fun env cs Q => wpT P Φ c env cs W Q) (fun env cs k1 => wpB P Φ body env cs W { nx := k1, ct := k1, bk := k.nx, rt := k.rt }) k.nx m env' cs',
          ⟨n, G, env, cs, Same.refl _, ok, er, h⟩, fun m σ H ⟨G', env', cs', s1, ok3, er3, hf⟩ => ?_⟩
        cases m with
        | zero => exact hf.elim
        | succ m =>
          unfold whN at hf
          refine WT.mono (sT M c c0 g.toGd ok3 er3 (hW.mono s1) hf).1 fun b H1 q1 => ?_
          obtain ⟨G1, env1, cs1, t1, ok1, er1, h1⟩ := q1
          cases b with
          | false =>
            rw [if_neg Bool.false_ne_true] at h1 ⊢
            exact ⟨G1, env1, cs1, s1.trans t1, ok1, er1, h1⟩
          | true =>
            rw [if_pos rfl] at h1 ⊢
            refine ⟨_, fun σ' H' q => q, ?_⟩
            refine (sB M body c1 g ok1 er1 (hW.mono (s1.trans t1)) h1).mono (fun σ3 H3 q => ?_) (fun v H3 q => rt_lift (k := k) (s1.trans t1) q) (fun σ3 H3 q => PT'.lift (s1.trans t1) q) (fun σ3 H3 q => ?_)
            · obtain ⟨G3, env3, cs3, t3, ok5, er5, h3⟩ := q
              exact ⟨m, by omega, G3, env3, cs3, (s1.trans t1).trans t3, ok5, er5, h3⟩
            · obtain ⟨G3, env3, cs3, t3, ok5, er5, h3⟩ := q
              exact ⟨m, by omega, G3, env3, cs3, (s1.trans t1).trans t3, ok5, er5, h3⟩
    | _ => exact nomatch hc
  | .raise c f es, sc, e, X, hc, g, σ, H, G, env, cs, W, k, ok, er, hW, h => by
    simp only [wpS] at h
  | .never, sc, e, X, hc, g, σ, H, G, env, cs, W, k, ok, er, hW, h => by
    simp only [wpS] at h
theorem sB (M : Mono Φ) : ∀ (sts : Sms) {sc : Scope} {l : List Stmt} {X : Cx}, chB P N sc sts l = true → Gs P N Φ ca fa lv X sc → ∀ {σ : L2.St} {H G : Hp} {env : Env} {cs : CS} {W : WT} {k : Kd}, Ok X.K ca G H cs → EnvR X.K ca G env σ → WOk X ca G W →
    wpB P Φ sts env cs W k → WSs X l (EE X ca G k) σ H
  | .nil, sc, l, X, hc, g, σ, H, G, env, cs, W, k, ok, er, hW, h => by
    cases l with
    | cons _ _ => exact nomatch hc
    | nil =>
      simp only [wpB] at h
      exact (pss_nil (X := X)).ws ⟨G, env, cs, Same.refl _, ok, er, h⟩
  | .cons st r, sc, l, X, hc, g, σ, H, G, env, cs, W, k, ok, er, hW, h => by
    cases l with
    | nil => exact nomatch hc
    | cons a l =>
      simp only [chB, Bool.and_eq_true] at hc
      simp only [wpB] at h
      refine (pss_cons (X := X) (pWS a) (pWSs l)).ws ((sS M st hc.1 g ok er hW h).mono (fun σ1 H1 q => ?_) (fun _ _ q => q) (fun _ _ q => q) (fun _ _ q => q))
      obtain ⟨G1, env1, cs1, t1, ok1, er1, h1⟩ := q
      exact (sB M r hc.2 g ok1 er1 (hW.mono t1) h1).lift t1
end
end
end Dw
set_option Elab.async false
set_option linter.all false
set_option maxRecDepth 100000
set_option maxHeartbeats 4000000
/-! All defs keep what they promise, by how deep calls go. -/
namespace Dw
open PySem PySem.Spec PyProof.Rows L2

def startE (n : Nat) (ds : List D) : Env := ds.map some ++ List.replicate (n - ds.length) none
/-- what a def does, its calls at most n deep -/
def phiN (P : Pg) (B : List (Sms × Nat)) : Nat → PhT
  | 0 => fun _ _ _ _ _ => False
  | n + 1 => fun f ds cs Q E => match B[f]? with
    | some b => wpB P (phiN P B n) b.1 (startE b.2 ds) cs (fun x _ c => E x c) { nx := fun _ c => Q .non false c, rt := Q }
    | none => False
section
variable {P : Pg} {B : List (Sms × Nat)}
theorem phiN_step {Φ Ψ : PhT} (L : Le Φ Ψ) {f : Nat} {ds : List D} {cs : CS} {Q1 Q2 : D → Bool → CS → Prop} {E1 E2 : Exn → CS → Prop} (h1 : ∀ d fr c, Q1 d fr c → Q2 d fr c) (h2 : ∀ x c, E1 x c → E2 x c)
    (h : match B[f]? with
      | some b => wpB P Φ b.1 (startE b.2 ds) cs (fun x _ c => E1 x c) { nx := fun _ c => Q1 .non false c, rt := Q1 }
      | none => False) : match B[f]? with
      | some b => wpB P Ψ b.1 (startE b.2 ds) cs (fun x _ c => E2 x c) { nx := fun _ c => Q2 .non false c, rt := Q2 }
      | none => False := by
  cases e : B[f]? with
  | none => simp only [e] at h
  | some b =>
    simp only [e] at h ⊢
    exact mB L b.1 (fun x _ c z => h2 x c z) (k := { nx := fun _ c => Q1 .non false c, rt := Q1 }) (k' := { nx := fun _ c => Q2 .non false c, rt := Q2 }) ⟨fun _ _ q => h1 _ _ _ q, h1, fun _ _ z => z, fun _ _ z => z⟩ h
theorem phiN_mono : ∀ n, Mono (phiN P B n)
  | 0 => fun _ _ _ {_ _ _ _} _ _ h => h.elim
  | n + 1 => fun f ds cs {Q1 Q2 E1 E2} h1 h2 h => phiN_step (fun i ds cs {_ _ _ _} => phiN_mono n i ds cs) h1 h2 h
theorem phiN_le : ∀ n, Le (phiN P B n) (phiN P B (n + 1))
  | 0 => fun _ _ _ {_ _ _ _} _ _ h => h.elim
  | n + 1 => fun f ds cs {Q1 Q2 E1 E2} h1 h2 h => phiN_step (phiN_le n) h1 h2 h
theorem phiN_up {n m : Nat} (hm : n ≤ m) : Le (phiN P B n) (phiN P B m) := by
  induction hm with
  | refl => exact fun i ds cs {_ _ _ _} => phiN_mono n i ds cs
  | step _ ih => exact fun i ds cs {_ _ _ _} h1 h2 h => phiN_le _ i ds cs (fun _ _ _ q => q) (fun _ _ q => q) (ih i ds cs h1 h2 h)
end
/-- a def's text and its short form -/
structure FnT (P : Pg) (K : PySem.W.Frag) (a : Addr) (f : FnI) (b : Sms × Nat) : Prop where
  ex : ∃ (oc : Value) (od : Option Addr) (nm qn : Str) (pr : Arguments) (body : List Stmt) (sc : Scope) (dV kV doc pm cv ct : Value) (an : Option Addr) (sl : Array (Option Value)) (N : List Str),
    K.lookup a = some ⟨oc, od, .func (PySem.W.fnOf nm qn pr body sc dV kV doc pm an cv ct), sl⟩ ∧ PySem.W.codeIn K cv qn = true ∧ FnScope N f.ps sc ∧ N.length = b.2 ∧ chB P N sc b.1 body = true ∧
    (∀ (s : Shared) (us : List Value), K.In s.heap → us.length = f.ps.length → BindsTo s (PySem.W.fnOf nm qn pr body sc dV kV doc pm an cv ct) ⟨us, []⟩ (f.ps.zip us)) ∧
    (∀ n ks perm, (n, ks, perm) ∈ f.kw → perm.length = f.ps.length ∧ (∀ i ∈ perm, i < n + ks.length) ∧ ∀ (s : Shared) (us ws : List Value), K.In s.heap → us.length = n → ws.length = ks.length → BindsTo s (PySem.W.fnOf nm qn pr body sc dV kV doc pm an cv ct) ⟨us, ks.zip ws⟩ (f.ps.zip (arr perm (us ++ ws))))
theorem envR_start {K : PySem.W.Frag} {ca : Nat → Addr} {G : Hp} {ds : List D} {vs : List V} {N : List Str} (r : RepL K ca G ds vs) : EnvR K ca G (startE N.length ds) (L2.start N vs) := by
  have hl := r.length
  refine ⟨by unfold startE L2.start; simp [hl], fun i d e => ?_⟩
  unfold startE at e
  by_cases hi : i < ds.length
  · rw [List.getElem?_append_left (by simpa using hi), List.getElem?_map] at e
    cases e1 : ds[i]? with
    | none => rw [e1] at e; cases e
    | some d' =>
      rw [e1] at e
      cases e
      obtain ⟨y, h1, h2⟩ := r.get e1
      refine ⟨y, ?_, h2⟩
      unfold L2.start
      rw [List.getElem?_append_left (by simpa [← hl] using hi), List.getElem?_map, h1]; rfl
  · rw [List.getElem?_append_right (by simpa using hi), List.getElem?_replicate] at e
    split at e <;> cases e
/-- a def keeps its promise, where its callees keep theirs -/
theorem fn_step {P : Pg} {B : List (Sms × Nat)} {ca fa : Nat → Addr} {X : Cx} {n i : Nat} {f : FnI} {b : Sms × Nat} (ih : Fx P (phiN P B n) ca fa (2 * n + 26) X) (hB : B[i]? = some b) (t : FnT P X.K (fa i) f b) :
    ∃ (fd : FuncData) (oc : Value) (od : Option Addr) (sl : Array (Option Value)), X.K.lookup (fa i) = some ⟨oc, od, .func fd, sl⟩ ∧ FnG X.prog X.w X.K X.mg X.base (CX X.prog X.w) (2 * (n + 1) + 26) (fa i) fd f.ps (spW X.K ca f.ps.length (phiN P B (n + 1) i)) ∧
    (∀ (s : Shared) (us : List Value), X.K.In s.heap → us.length = f.ps.length → BindsTo s fd ⟨us, []⟩ (f.ps.zip us)) ∧
    (∀ n ks perm, (n, ks, perm) ∈ f.kw → perm.length = f.ps.length ∧ (∀ i ∈ perm, i < n + ks.length) ∧ ∀ (s : Shared) (us ws : List Value), X.K.In s.heap → us.length = n → ws.length = ks.length → BindsTo s fd ⟨us, ks.zip ws⟩ (f.ps.zip (arr perm (us ++ ws)))) := by
  obtain ⟨oc, od, nm, qn, pr, body, sc, dV, kV, doc, pm, cv, ct, an, sl, N, hK, hc, S, hN, hch, hb, hk⟩ := t.ex
  refine ⟨_, oc, od, sl, hK, FnG.of (k := 2 * n + 27) hK hc S (fun vs H Q E ⟨G, cs, ds, _, r, hl, _⟩ => by rw [← r.length, hl]) (fun A hg out s H vs Q E room ⟨G, cs, ds, ok, rl, hl, h⟩ => ?_), hb, hk⟩
  have h : (match B[i]? with
    | some b => wpB P (phiN P B n) b.1 (startE b.2 ds) cs (fun x _ c => ∀ G' H' cv dx, Same G G' → Ok X.K ca G' H' c → RepX X.K ca G' H' x cv dx → E cv dx H')
      { nx := fun _ c => ∀ G' H' v, Same G G' → Ok X.K ca G' H' c → RepR X.K ca G' H' c .non false v → Q v H', rt := fun d fr c => ∀ G' H' v, Same G G' → Ok X.K ca G' H' c → RepR X.K ca G' H' c d fr v → Q v H' }
    | none => False) := h
  rw [hB] at h
  have gs : Gs P N (phiN P B n) ca fa (2 * n + 26) (cxOf (CX X.prog X.w) X.prog X.w X.K X.mg X.base N qn sc (fa i) cv A out s H E) sc :=
    { fx := ih.to rfl rfl rfl rfl rfl, hN := rfl, hsc := rfl, calm := rfl, nd := S.nd, room := room, units := hg, big := Nat.le_add_left _ _, pass := passes_of rfl, fnc := fun _ => rfl, fnk := S.kind }
  have er : EnvR X.K ca G (startE b.2 ds) (L2.start N vs) := by rw [← hN]; exact envR_start rl
  have q := sB (phiN_mono n) b.1 hch gs (W := fun x _ c => ∀ G' H' cv dx, Same G G' → Ok X.K ca G' H' c → RepX X.K ca G' H' x cv dx → E cv dx H') ok er
    ⟨fun cls d _ H => E cls d H, takes_of rfl rfl rfl rfl, fun σ' G' H' env' cs' x c dx s1 ok1 er1 rx h => h G' H' c dx s1 ok1 rx⟩ h
  refine WSs.mono q (fun σ' H' ⟨G', env', cs', s1, ok1, er1, q⟩ => q G' H' .non s1 ok1 Rep.non.r) (fun v H' ⟨G', cs', d, fr, s1, ok1, r1, q⟩ => q G' H' v s1 ok1 r1) (fun σ' H' ⟨_, _, _, _, _, _, z⟩ => z.elim) (fun σ' H' ⟨_, _, _, _, _, _, z⟩ => z.elim)
theorem fx_n {P : Pg} {B : List (Sms × Nat)} {ca fa : Nat → Addr} {X : Cx} (F0 : Fx P (phiN P B 0) ca fa 26 X) (T : ∀ i f, P.fns[i]? = some f → ∃ b, B[i]? = some b ∧ FnT P X.K (fa i) f b) : ∀ n, Fx P (phiN P B n) ca fa (2 * n + 26) X
  | 0 => F0
  | n + 1 => by
    have ih := fx_n F0 T n
    refine ⟨fun i f hf => ⟨?_⟩, F0.gfn, F0.gcl, F0.free, F0.cls, F0.fld, F0.meth, F0.prop, F0.con, F0.mkr, F0.ccn, F0.isB, F0.isC, F0.ity, F0.ocl, F0.eqk, F0.eqb, F0.sta, F0.neq, F0.fin, F0.rad, F0.rpr, F0.inj⟩
    obtain ⟨b, hB, t⟩ := T i f hf
    obtain ⟨fd, _, _, _, _, h⟩ := fn_step ih hB t
    exact ⟨fd, h⟩
end Dw
set_option Elab.async false
set_option linter.all false
set_option maxRecDepth 100000
set_option maxHeartbeats 4000000
/-! What the program's top leaves: all facts of the table, read off the heap by one Bool. -/
namespace Dw
open PySem PySem.Spec PyProof.Rows L2 ClX

/-- where a def stands -/
inductive At where
  | glo (x : Str) | meth (C m : Str) | prop (C m : Str) | stat (C m : Str)
def propG (K : PySem.W.Frag) (p : Addr) : Addr := match PySem.W.recIn K p "property" with
  | some (.ref g :: _) => g
  | _ => 0
def statG (K : PySem.W.Frag) (p : Addr) : Addr := match PySem.W.recIn K p "staticmethod" with
  | some (.ref g :: _) => g
  | _ => 0
def At.adr (K : PySem.W.Frag) : At → Addr
  | .glo x => He.ga K x
  | .meth C m => He.ma K (He.ga K C) m
  | .prop C m => propG K (He.ma K (He.ga K C) m)
  | .stat C m => statG K (He.ma K (He.ga K C) m)
/-- a def: where it stands, its text -/
structure DfD where
  at_ : At
  name : Str
  qual : Str
  params : Arguments
  body : List Stmt
  scope : Scope
def DfD.val (d : DfD) : He.FnW := some (d.name, d.qual, d.params, .stmts d.body, d.scope, mainGlobals, [], builtinsNs)
def DfD.see (K : PySem.W.Frag) (d : DfD) : He.FnW := match K.lookup (d.at_.adr K) with
  | some ⟨_, _, .func fd, _⟩ => some (fd.name, fd.qualname, fd.params, fd.body, fd.scope, fd.globals, fd.closure, fd.builtins)
  | _ => none
def isNone : Value → Bool
  | .none => true
  | _ => false
def DfD.ok (K : PySem.W.Frag) (d : DfD) : Bool := PySem.W.keepIn K (.ref (d.at_.adr K)) && (PySem.W.fnIn K (d.at_.adr K) && match K.lookup (d.at_.adr K) with
  | some ⟨_, _, .func fd, _⟩ => PySem.W.codeIn K fd.code d.qual && isNone fd.defaults
  | _ => false)
theorem DfD.fn {K : PySem.W.Frag} {d : DfD} (e : d.see K = d.val) (c : d.ok K = true) : PySem.W.keepIn K (.ref (d.at_.adr K)) = true ∧ PySem.W.fnIn K (d.at_.adr K) = true ∧
    ∃ (oc : Value) (od : Option Addr) (kV doc pm cv ct : Value) (an : Option Addr) (sl : Array (Option Value)),
      K.lookup (d.at_.adr K) = some ⟨oc, od, .func (PySem.W.fnOf d.name d.qual d.params d.body d.scope .none kV doc pm an cv ct), sl⟩ ∧ PySem.W.codeIn K cv d.qual = true := by
  unfold DfD.ok at c
  simp only [Bool.and_eq_true] at c
  obtain ⟨c1, c2, c3⟩ := c
  refine ⟨c1, c2, ?_⟩
  unfold DfD.see at e
  cases q : K.lookup (d.at_.adr K) with
  | none => rw [q] at c3; cases c3
  | some o =>
    obtain ⟨oc, od, dt, sl⟩ := o
    rw [q] at c3 e
    cases dt with
    | func fd =>
      obtain ⟨a1, a2, a3, a4, a5, a6, a7, a8, a9, b1, b2, b3, b4, b5, b6⟩ := fd
      have e : (some (a1, a2, a3, a4, a5, a6, a7, b6) : He.FnW) = some (d.name, d.qual, d.params, .stmts d.body, d.scope, mainGlobals, [], builtinsNs) := e
      simp only [Option.some.injEq, Prod.mk.injEq] at e
      obtain ⟨rfl, rfl, rfl, rfl, rfl, rfl, rfl, rfl⟩ := e
      simp only [Bool.and_eq_true] at c3
      obtain ⟨c4, c5⟩ := c3
      have c5 : isNone a8 = true := c5
      cases a8 <;> first
        | (cases c5; done)
        | exact ⟨oc, od, a9, b1, b2, b4, b5, b3, sl, rfl, c4⟩
    | _ => cases c3
/-! ### the checks -/
section
variable (P : Pg) (ats : List At) (K : PySem.W.Frag)
def caK (P : Pg) (K : PySem.W.Frag) (c : Nat) : Addr := match P.cls[c]? with
  | some ci => He.ga K ci.nm
  | none => 0
def faK (ats : List At) (K : PySem.W.Frag) (i : Nat) : Addr := match ats[i]? with
  | some a => a.adr K
  | none => 0
def dV : D → Option V
  | .int i => some (.int i)
  | .str x => some (.str x)
  | .bl b => some (.bl b)
  | .non => some .non
  | _ => none
def gloB (q : Str × Glo) : Bool := match q.2 with
  | .fn i => He.eqO (PySem.W.nsIn K mainGlobals q.1) (some (some (.ref (faK ats K i)))) && (PySem.W.keepIn K (.ref (faK ats K i)) && decide (i < P.fns.length))
  | .cls c => He.eqO (PySem.W.nsIn K mainGlobals q.1) (some (some (.ref (caK P K c)))) && decide (c < P.cls.length)
def methB (C : Addr) (q : Str × Nat) : Bool := He.eqO (PySem.W.findIn K (.ref C) q.1) (some (some (.ref (faK ats K q.2)))) && (PySem.W.isFn K (.ref (faK ats K q.2)) && (PySem.W.keepIn K (.ref (faK ats K q.2)) && decide (q.2 < P.fns.length)))
def propB (C : Addr) (q : Str × Nat) : Bool := match PySem.W.findIn K (.ref C) q.1 with
  | some (some (.ref p)) => He.eqO (PySem.W.specialIn K (.ref p) "__get__") (some (some (.builtin "property.__get__"))) && (decide (PySem.W.takesIn K (.ref p) = some true) && ((match PySem.W.recIn K p "property" with
      | some (.ref g :: _) => decide (g = faK ats K q.2)
      | _ => false) && match P.fns[q.2]? with
      | some f => decide (f.ps.length = 1)
      | none => false))
  | _ => false
def conB (C : Addr) (q : Str × D) : Bool := match PySem.W.findIn K (.ref C) q.1, dV q.2 with
  | some (some u), some v => He.relB v u && (He.eqO (PySem.W.specialIn K u "__get__") (some none) && (!PySem.W.copiedNames.contains q.1 && (PySem.W.readsIn K C (.type "type") && (He.eqO (PySem.W.specialIn K (.ref C) "__getattribute__") (some (some (.builtin "type.__getattribute__"))) &&
      match PySem.W.findCls K (.ref C) (.type "type") q.1 with
      | some (.val u') => decide (u' = u)
      | _ => false))))
  | _, _ => false
def statB (C : Addr) (q : Str × Nat) : Bool := PySem.W.readsIn K C (.type "type") && (He.eqO (PySem.W.specialIn K (.ref C) "__getattribute__") (some (some (.builtin "type.__getattribute__"))) && (PySem.W.keepIn K (.ref (faK ats K q.2)) && (decide (q.2 < P.fns.length) &&
  match PySem.W.findCls K (.ref C) (.type "type") q.1 with
  | some (.get g (.ref p) ob (.ref C')) => decide (g = .builtin "staticmethod.__get__") && (isNone ob && (decide (C' = C) && match PySem.W.recIn K p "staticmethod" with
      | some (.ref g :: _) => decide (g = faK ats K q.2)
      | _ => false))
  | _ => false)))
def initB (C : Addr) : Option Nat → Bool
  | none => true
  | some f => PySem.W.makesIn K C && (He.eqO (PySem.W.findIn K (.ref C) "__init__") (some (some (.ref (faK ats K f)))) && (PySem.W.isFn K (.ref (faK ats K f)) && (PySem.W.keepIn K (.ref C) && decide (f < P.fns.length))))
def neB (ci : ClI) : Bool := !(ci.meths.lookup ("__eq__" : Str)).isSome || He.eqO (PySem.W.findIn K (.ref (He.ga K ci.nm)) "__ne__") (some (some (.builtin "object.__ne__")))
def raB (ci : ClI) : Bool := !(ci.meths.lookup ("__radd__" : Str)).isSome || (PySem.W.selfFirst K (He.ga K ci.nm) && He.eqO (PySem.W.findIn K (.ref (He.ga K ci.nm)) (PySem.dunder "add")) (some none))
def clsB (ci : ClI) : Bool :=
  (He.Fa.cls ci.nm).ok K && (ci.flds.all (fun f => He.eqO (PySem.W.findIn K (.ref (He.ga K ci.nm)) f) (some none)) && (ci.meths.all (methB P ats K (He.ga K ci.nm)) && (ci.props.all (propB P ats K (He.ga K ci.nm)) && (ci.cons.all (conB K (He.ga K ci.nm)) && (initB P ats K (He.ga K ci.nm) ci.init &&
  (tyNs.all (fun n => decide (PySem.W.kitOne K (.type n) (.ref (He.ga K ci.nm)) = some false)) && (He.eqO (PySem.W.findIn K (.ref (He.ga K ci.nm)) "__class__") (some (some (.builtin "object.__class__"))) && (decide (PySem.W.mroIn K (He.ga K ci.nm) (.type "object") = some true) &&
  (neB K ci && (raB K ci && (ci.stats.all (statB P ats K (He.ga K ci.nm)) && tyNs.all (fun n => PySem.W.notFirst K (He.ga K ci.nm) (.type n)))))))))))))
def pairB (c c' : Nat) : Bool := decide (PySem.W.kitOne K (.ref (caK P K c')) (.ref (caK P K c)) = some (decide (c' = c))) && (PySem.W.notFirst K (caK P K c) (.ref (caK P K c')) && (decide (c = c') || !decide (caK P K c = caK P K c')))
def fxB : Bool := P.glo.all (gloB P ats K) && (P.free.all (fun x => He.eqO (PySem.W.nsIn K mainGlobals x) (some none)) && (P.cls.all (clsB P ats K) && ((List.range P.cls.length).all (fun c => (List.range P.cls.length).all (pairB P K c)) &&
  (He.eqO (PySem.W.specialIn K (.builtin "object.__class__") "__get__") (some (some (.builtin "getset_descriptor.__get__"))) && decide (PySem.W.takesIn K (.builtin "object.__class__") = some true)))))
end
theorem dV_rel {K : PySem.W.Frag} {ca : Nat → Addr} {G : Hp} {d : D} {v : V} (h : dV d = some v) : Rep K ca G d v := by
  cases d <;> first
    | (cases h; constructor)
    | (cases h; done)
/-- a short __repr__ -/
def rpE : Exs → List RP → Bool
  | .nil, [] => true
  | .cons (.str x) es, .lit y :: r => decide (x = y) && rpE es r
  | .cons (.bi .repr (.cons (.fld (.var 0) f) .nil)) es, .fld g :: r => decide (f = g) && rpE es r
  | _, _ => false
def RP.isF : RP → Bool
  | .lit _ => false
  | .fld _ => true
theorem chB_ret {P : Pg} {N : List Str} {sc : Scope} {e : Ex} {body : List Stmt} (h : chB P N sc (.cons (.ret e) .nil) body = true) : ∃ e1 p, body = [.Return (some e1) p] ∧ chE P N sc e e1 = true := by
  cases body with
  | nil => cases h
  | cons st r =>
    simp only [chB, Bool.and_eq_true] at h
    obtain ⟨h1, h2⟩ := h
    cases r with
    | cons _ _ => simp [chB] at h2
    | nil =>
      cases st with
      | Return o p => cases o with
        | none => simp [chS] at h1
        | some a => exact ⟨a, p, rfl, by simpa only [chS] using h1⟩
      | _ => simp [chS] at h1
theorem chE_fs {P : Pg} {N : List Str} {sc : Scope} {es : Exs} {e : Expr} (h : chE P N sc (.fs es) e = true) : ∃ a b l p, e = .JoinedStr (a :: b :: l) p ∧ chF P N sc es (a :: b :: l) = true := by
  cases e with
  | JoinedStr l p => match l, h with
    | a :: b :: l, h => exact ⟨a, b, l, p, rfl, by simpa only [chE] using h⟩
  | _ => simp [chE] at h
/-- each class's own __repr__ is as the table tells it -/
def repB (P : Pg) (B : List (Sms × Nat)) : Bool := P.cls.all fun ci => ci.rep.isEmpty || (match ci.meths.lookup ("__repr__" : Str) with
  | some g => (match P.fns[g]?, B[g]? with
    | some f, some (.cons (.ret (.fs es)) .nil, 1) => decide (f.ps.length = 1) && (rpE es ci.rep && (ci.rep.any RP.isF && ci.rep.all fun p => match p with
        | .lit _ => true
        | .fld f => ci.flds.contains f))
    | _, _ => false)
  | none => false)
theorem rpE_fs {P : Pg} {N : List Str} {sc : Scope} {x : Str} (hN : N[0]? = some x) : ∀ {es : Exs} {rp : List RP} {l : List Expr}, rpE es rp = true → chF P N sc es l = true → rpB sc x rp l = true ∧ ((∃ f, RP.fld f ∈ rp) → (vis sc x && nsp x) = true)
  | .nil, rp, l, h, hc => by
    cases rp with
    | nil => cases l with
      | nil => exact ⟨rfl, fun ⟨f, z⟩ => nomatch z⟩
      | cons _ _ => exact nomatch hc
    | cons _ _ => simp [rpE] at h
  | .cons e es, rp, l, h, hc => by
    rcases chF_cons hc with ⟨y, k, p, l', rfl, rfl, c1⟩ | ⟨e1, a, p, l', rfl, rfl, c1, c2⟩
    · cases rp with
      | nil => simp [rpE] at h
      | cons q r => cases q with
        | fld g => simp [rpE] at h
        | lit z =>
          simp only [rpE, Bool.and_eq_true, decide_eq_true_eq] at h
          obtain ⟨rfl, h⟩ := h
          obtain ⟨h1, h2⟩ := rpE_fs hN h c1
          refine ⟨by simp only [rpB, h1, decide_true, Bool.and_self], fun ⟨f, z⟩ => ?_⟩
          rcases List.mem_cons.mp z with e | z
          · cases e
          · exact h2 ⟨f, z⟩
    · cases rp with
      | nil => simp [rpE] at h
      | cons q r => cases q with
        | lit z => simp [rpE] at h
        | fld g =>
          unfold rpE at h
          split at h
          all_goals first
            | (cases h; done)
            | (rename_i z1 z2; cases z1; done)
            | skip
          · rename_i z1 z2
            cases z1
            cases z2
            simp only [Bool.and_eq_true, decide_eq_true_eq] at h
            obtain ⟨rfl, h⟩ := h
            obtain ⟨h1, h2⟩ := rpE_fs hN h c2
            cases a with
            | Attribute o f' p2 =>
              simp only [chE, Bool.and_eq_true, decide_eq_true_eq] at c1
              obtain ⟨rfl, c3, c4⟩ := c1
              cases o with
              | Name x' p3 =>
                simp only [chE, Bool.and_eq_true, decide_eq_true_eq] at c4
                rw [hN] at c4
                obtain ⟨e1, c5⟩ := c4
                cases e1
                refine ⟨by simp only [rpB, h1, decide_true, Bool.and_self], fun _ => ?_⟩
                simp only [Bool.and_eq_true]; exact c5
              | _ => simp [chE] at c4
            | _ => simp [chE] at c1
end Dw
set_option Elab.async false
set_option linter.all false
set_option maxRecDepth 100000
set_option maxHeartbeats 4000000
/-! The table's facts from the checks. -/
namespace Dw
open PySem PySem.Spec PyProof.Rows L2 ClX
theorem eqO_ok' {a b : Option (Option Value)} (h : He.eqO a b = true) : a = b := He.eqO_ok h
section
variable {P : Pg} {B : List (Sms × Nat)} {ats : List At} {K : PySem.W.Frag}
theorem cls_mem {c : Nat} {ci : ClI} (h : P.cls[c]? = some ci) : ci ∈ P.cls := List.mem_of_getElem? h
theorem caK_of {c : Nat} {ci : ClI} (h : P.cls[c]? = some ci) : caK P K c = He.ga K ci.nm := by unfold caK; rw [h]
theorem look_mem {α : Type} {l : List (Str × α)} {x : Str} {v : α} (h : l.lookup x = some v) : (x, v) ∈ l := PySem.mem_of_lookup h
structure ClsOk (P : Pg) (ats : List At) (K : PySem.W.Frag) (C : Addr) (ci : ClI) : Prop where
  c : Cls K C
  fl : ∀ f, ci.flds.contains f = true → NoAttr K C f
  mt : ∀ m g, ci.meths.lookup m = some g → Meth K C m (faK ats K g) ∧ g < P.fns.length
  pr : ∀ m g, ci.props.lookup m = some g → propB P ats K C (m, g) = true
  cn : ∀ m d, ci.cons.lookup m = some d → conB K C (m, d) = true
  ini : initB P ats K C ci.init = true
  ty : ∀ n ∈ tyNs, PySem.W.kitOne K (.type n) (.ref C) = some false
  i1 : PySem.W.findIn K (.ref C) "__class__" = some (some (.builtin "object.__class__"))
  i2 : PySem.W.mroIn K C (.type "object") = some true
  ne : (ci.meths.lookup ("__eq__" : Str)).isSome = true → PySem.W.findIn K (.ref C) "__ne__" = some (some (.builtin "object.__ne__"))
  st : ∀ m g, ci.stats.lookup m = some g → statB P ats K C (m, g) = true
  eb : ∀ n ∈ tyNs, PySem.W.notFirst K C (.type n) = true
  ra : (ci.meths.lookup ("__radd__" : Str)).isSome = true → PySem.W.selfFirst K C = true ∧ PySem.W.findIn K (.ref C) (PySem.dunder "add") = some none
theorem clsB_ok {ci : ClI} (h : clsB P ats K ci = true) : ClsOk P ats K (He.ga K ci.nm) ci := by
  unfold clsB at h
  simp only [Bool.and_eq_true, List.all_eq_true] at h
  obtain ⟨h1, h2, h3, h4, h5, h6, h7, h8, h9, h10, h11, h12, h13⟩ := h
  refine ⟨He.cls_ok h1, fun f hf => eqO_ok' (h2 f (by simpa using hf)), fun m g hl => ?_, fun m g hl => h4 _ (look_mem hl), fun m d hl => h5 _ (look_mem hl), h6, fun n hn => of_decide_eq_true (h7 n hn), eqO_ok' h8, of_decide_eq_true h9, fun z => ?_, fun m g hl => h12 _ (look_mem hl), h13, fun z => ?_⟩
  · have q := h3 _ (look_mem hl)
    unfold methB at q
    simp only [Bool.and_eq_true, decide_eq_true_eq] at q
    exact ⟨⟨eqO_ok' q.1, q.2.1, q.2.2.1⟩, q.2.2.2⟩
  · unfold neB at h10
    rw [z, Bool.not_true, Bool.false_or] at h10
    exact eqO_ok' h10
  · unfold raB at h11
    rw [z, Bool.not_true, Bool.false_or, Bool.and_eq_true] at h11
    exact ⟨h11.1, eqO_ok' h11.2⟩
theorem fns_at {i : Nat} (h : i < P.fns.length) : ∃ f, P.fns[i]? = some f := ⟨P.fns[i], by simp [h]⟩
theorem fx_of {w : World} {X : Cx} {h : Heap} (hK : X.K = K) (KX : K.In h) (G : h.Ns mainGlobals X.mg) (hf : fxB P ats K = true) (hR : repB P B = true)
    (T : ∀ i f, P.fns[i]? = some f → ∃ b, B[i]? = some b ∧ FnT P K (faK ats K i) f b) (hfin : ∀ i f, P.fns[i]? = some f → PySem.W.fnIn K (faK ats K i) = true) : Fx P (phiN P B 0) (caK P K) (faK ats K) 26 X := by
  subst hK
  unfold fxB at hf
  simp only [Bool.and_eq_true, List.all_eq_true] at hf
  obtain ⟨g1, g2, g3, g4, g5, g6⟩ := hf
  have C : ∀ c ci, P.cls[c]? = some ci → ClsOk P ats X.K (caK P X.K c) ci := fun c ci hc => by rw [caK_of hc]; exact clsB_ok (g3 ci (cls_mem hc))
  have pair : ∀ c c' ci ci', P.cls[c]? = some ci → P.cls[c']? = some ci' → pairB P X.K c c' = true := fun c c' ci ci' h1 h2 => by
    have l1 := (List.getElem?_eq_some_iff.mp h1).1
    have l2 := (List.getElem?_eq_some_iff.mp h2).1
    exact g4 c (List.mem_range.mpr l1) c' (List.mem_range.mpr l2)
  have bindc : ∀ {α : Type} {c : Nat} {k : ClI → Option α} {v : α}, (P.cls[c]?).bind k = some v → ∃ ci, P.cls[c]? = some ci ∧ k ci = some v := fun {α c k v} e => by
    cases q : P.cls[c]? with
    | none => rw [q] at e; cases e
    | some ci => rw [q] at e; exact ⟨ci, rfl, e⟩
  have glo : ∀ x g, P.glo.lookup x = some g → gloB P ats X.K (x, g) = true := fun x g e => g1 _ (look_mem e)
  have gloC : ∀ x c, P.glo.lookup x = some (.cls c) → X.mg x = some (.ref (caK P X.K c)) := fun x c e => by
    have q := glo x _ e
    unfold gloB at q
    rw [Bool.and_eq_true] at q
    exact PySem.W.mg_of KX G (eqO_ok' q.1)
  have spN : ∀ i, spW X.K (caK P X.K) i (phiN P B 0 i) = spW X.K (caK P X.K) i (fun _ _ _ _ => False) := fun i => rfl
  refine ⟨fun i f e => ⟨?_⟩, fun x i e => ?_, gloC, fun x e => ?_, fun c ci e => (C c ci e).c, fun c f e => ?_, fun c m g e => ?_, fun c m g e => ?_, fun c m d e => ?_, fun c f e => ?_, fun c f d e => ?_, fun x c n e hn => ?_, fun x c c' ci e hc => ?_, fun c ci e => ⟨(C c ci e).i1, (C c ci e).i2⟩,
    ⟨eqO_ok' g5, of_decide_eq_true g6⟩, fun c c2 ci ci2 h1 h2 => ?_, fun c ci n h1 hn => (C c ci h1).eb n hn, fun c m f e => ?_, fun c g e => ?_, hfin, fun c g e => ?_, fun c ci hc hr => ?_, fun c c' ci ci' h1 h2 e => ?_⟩
  · obtain ⟨b, _, t⟩ := T i f e
    obtain ⟨oc, od, nm, qn, pr, body, sc, dV, kV, doc, pm, cv, ct, an, sl, N, _, _, _, _, _, hb, hk⟩ := t.ex
    exact ⟨_, ⟨fun vs H Q E ⟨_, _, _, _, _, _, z⟩ => z.elim, fun A _ out s H ar us vs Q E _ _ _ _ ⟨_, _, _, _, _, _, z⟩ => z.elim⟩, hb, hk⟩
  · have q := glo x _ e
    unfold gloB at q
    simp only [Bool.and_eq_true, decide_eq_true_eq] at q
    exact ⟨fns_at q.2.2, PySem.W.mg_of KX G (eqO_ok' q.1), q.2.1⟩
  · exact PySem.W.mg_none_of KX G (eqO_ok' (g2 x (by simpa using e)))
  · unfold Pg.isF at e
    split at e
    · rename_i ci hc
      exact (C c ci hc).fl f e
    · cases e
  · obtain ⟨ci, hc, e⟩ := bindc e
    obtain ⟨h1, h2⟩ := (C c ci hc).mt m g e
    exact ⟨h1, fns_at h2⟩
  · obtain ⟨ci, hc, e⟩ := bindc e
    have q := (C c ci hc).pr m g e
    unfold propB at q
    split at q
    · rename_i p hp
      simp only [Bool.and_eq_true, decide_eq_true_eq] at q
      obtain ⟨q1, q2, q3, q4⟩ := q
      split at q3
      · rename_i g' r hr
        have e3 : g' = faK ats X.K g := of_decide_eq_true q3
        subst e3
        refine ⟨⟨p, hp, eqO_ok' q1, q2, r, hr⟩, ?_⟩
        split at q4
        · rename_i f hf
          exact ⟨f, hf, of_decide_eq_true q4⟩
        · cases q4
      · cases q3
    · cases q
  · obtain ⟨ci, hc, e⟩ := bindc e
    have q := (C c ci hc).cn m d e
    unfold conB at q
    split at q
    · rename_i u v h1 h2
      simp only [Bool.and_eq_true, Bool.not_eq_true'] at q
      obtain ⟨q1, q2, q3, _⟩ := q
      exact ⟨v, u, ⟨h1, He.relB_ok q1, eqO_ok' q2, q3⟩, fun G => dV_rel h2⟩
    · cases q
  · obtain ⟨ci, hc, e⟩ := bindc e
    have q := (C c ci hc).ini
    rw [e] at q
    unfold initB at q
    simp only [Bool.and_eq_true, decide_eq_true_eq] at q
    exact ⟨⟨q.1, eqO_ok' q.2.1, q.2.2.1, q.2.2.2.1⟩, fns_at q.2.2.2.2⟩
  · obtain ⟨ci, hc, e⟩ := bindc e
    have q := (C c ci hc).cn f d e
    unfold conB at q
    split at q
    · rename_i u v h1 h2
      simp only [Bool.and_eq_true, Bool.not_eq_true'] at q
      obtain ⟨q1, q2, q3, q4, q5, q6⟩ := q
      split at q6
      · rename_i u' hu
        have e6 : u' = u := of_decide_eq_true q6
        subst e6
        exact ⟨.type "type", v, u', ⟨q4, eqO_ok' q5⟩, ⟨hu, He.relB_ok q1⟩, fun G => dV_rel h2⟩
      · cases q6
    · cases q
  · have q := glo x _ e
    unfold gloB at q
    rw [Bool.and_eq_true, decide_eq_true_eq] at q
    exact (C c P.cls[c] (by simp [q.2])).ty n hn
  · have q := glo x _ e
    unfold gloB at q
    rw [Bool.and_eq_true, decide_eq_true_eq] at q
    have z := pair c c' P.cls[c] ci (by simp [q.2]) hc
    unfold pairB at z
    rw [Bool.and_eq_true, decide_eq_true_eq] at z
    exact z.1
  · have q := pair c c2 ci ci2 h1 h2
    unfold pairB at q
    simp only [Bool.and_eq_true] at q
    exact q.2.1
  · obtain ⟨ci, hc, e⟩ := bindc e
    have q := (C c ci hc).st m f e
    unfold statB at q
    simp only [Bool.and_eq_true, decide_eq_true_eq] at q
    obtain ⟨q1, q2, q3, q4, q5⟩ := q
    split at q5
    · rename_i g p ob C' hg
      simp only [Bool.and_eq_true, decide_eq_true_eq] at q5
      obtain ⟨rfl, q6, rfl, q7⟩ := q5
      have hob : ob = .none := by
        cases ob <;> first | rfl | cases q6
      subst hob
      split at q7
      · rename_i g' r hr
        have e3 : g' = faK ats X.K f := of_decide_eq_true q7
        subst e3
        exact ⟨⟨.type "type", p, ⟨q1, eqO_ok' q2⟩, ⟨hg, r, hr⟩⟩, q3⟩
      · cases q7
    · cases q5
  · obtain ⟨ci, hc, e⟩ := bindc e
    exact (C c ci hc).ne (by rw [e]; rfl)
  · obtain ⟨ci, hc, e⟩ := bindc e
    exact (C c ci hc).ra (by rw [e]; rfl)
  · unfold repB at hR
    rw [List.all_eq_true] at hR
    have q := hR ci (cls_mem hc)
    rw [hr, Bool.false_or] at q
    split at q
    · rename_i g hg
      split at q
      · rename_i f es hf hb
        simp only [Bool.and_eq_true, decide_eq_true_eq, List.all_eq_true] at q
        obtain ⟨q1, q2, q0, q3⟩ := q
        obtain ⟨b, hB, t⟩ := T g f hf
        rw [hb] at hB; cases hB
        obtain ⟨oc, od, nm, qn, pr, body, sc, dV, kV, doc, pm, cv, ct, an, sl, N, t1, t2, t3, t4, t5, t6, t7⟩ := t.ex
        have cl := C c ci hc
        have mt := (cl.mt _ g hg).1
        have t4 : N.length = 1 := t4
        obtain ⟨x, hx⟩ : ∃ x, N = [x] := by
          cases N with
          | nil => cases t4
          | cons x r => cases r with
            | nil => exact ⟨x, rfl⟩
            | cons _ _ => cases t4
        subst hx
        have hps : f.ps = [x] := by
          have := t3.pre
          rw [q1] at this
          exact this.symm
        rw [hps] at t3 t6
        obtain ⟨e1, p2, rfl, t8⟩ := chB_ret t5
        obtain ⟨a, b, l, p1, rfl, t9⟩ := chE_fs t8
        obtain ⟨z1, z2⟩ := rpE_fs (x := x) rfl q2 t9
        have hne : ∃ f, RP.fld f ∈ ci.rep := by
          rw [List.any_eq_true] at q0
          obtain ⟨p, hp, hq⟩ := q0
          cases p with
          | lit _ => cases hq
          | fld f => exact ⟨f, hp⟩
        refine ⟨cl.c, ⟨faK ats X.K g, oc, od, nm, qn, pr, sc, dV, kV, doc, pm, cv, ct, an, sl, x, a, b, l, p1, p2, mt.at_, mt.fn, t1, t2, t3, z2 hne, z1, t6⟩, fun f hf => ?_⟩
        exact cl.fl f (q3 (.fld f) hf)
      · cases q
    · cases q
  · have q := pair c c' ci ci' h1 h2
    unfold pairB at q
    simp only [Bool.and_eq_true, Bool.or_eq_true, decide_eq_true_eq, Bool.not_eq_true', decide_eq_false_iff_not] at q
    rcases q.2.2 with z | z
    · subst z; rw [h1] at h2; cases h2; rfl
    · exact absurd e z
end
end Dw
set_option Elab.async false
set_option linter.all false
set_option maxRecDepth 100000
set_option maxHeartbeats 4000000
/-! The end: from a def's promise to the law. -/
namespace Dw
open PySem PySem.Spec PyProof.Rows L2
theorem cx_no {P : Program} {w : World} {out : List PySem.Env} {H : Hp} {s s' : Shared} {e : Value} (h : CX P w out H s (fun _ _ _ => False) e s') : False := by
  obtain ⟨_, _, _, _, _, _, _, _, _, _, _, _, z⟩ := h
  exact z
/-- the law's def is called behind the top: its promise, kept where no guard is up, is enough -/
theorem lawG {P : Program} {w : World} {K : PySem.W.Frag} {mg mb : Str → Option Value} {k : Nat} {f a : Addr} {fd : FuncData} {x : Str} {sp : Sp} {st : Shared} {us : List Value} {ns : List Int}
    (kin : K.In st.heap) (ng : st.heap.Ns mainGlobals mg) (nb : st.heap.Ns builtinsNs mb) (bb : ∀ y : Str, y ≠ "__name__" → mb y = bootBuiltins y) (nl : st.heap.NoLimit) (gn : st.gens = #[])
    (at_ : st.heap.get? a = some { cls := .type "list", data := .seq us.toArray }) (ia : IntsAre us ns) (le : ns.length ≤ sizeLine) (rm : Room k callerA)
    (F : ∀ base : Heap, K.In base → base.Ns mainGlobals mg → FnG P w K mg base (CX P w) k f fd [x] sp) (bd : ∀ (s : Shared) (u : Value), BindsTo s fd ⟨[u], []⟩ [(x, u)])
    (hs : ∀ H : Hp, Only H → SqL K H a (ns.map V.int) → sp [.ref a] H (fun v _ => v = .bl true) fun _ _ _ => False) :
    codeAny (model P w) callerA (.call (.ref f) ⟨[.ref a], []⟩) (fun r s' => r = .ok (.ret (.bool true)) ∧ OldK st.heap s'.heap ∧ s'.os = st.os ∧ AllBare s'.gens) st := by
  have rv := vals_ints ia
  have go : ∀ H : Hp, Only H → SqL K H a (ns.map V.int) → HOk P w H st.heap → (∀ b, H b ≠ none → b = a) → (H a ≠ none → K.lookup a = none) →
      codeAny (model P w) callerA (.call (.ref f) ⟨[.ref a], []⟩) (fun r s' => r = .ok (.ret (.bool true)) ∧ OldK st.heap s'.heap ∧ s'.os = st.os ∧ AllBare s'.gens) st := by
    intro H only sq hok one nk
    have dict : ∀ {b : Addr} {o : Obj} {es : Array DictEntry} {m : Nat}, st.heap.get? b = some o → o.data = .dict es m → H b = none := fun {b o es m} e hd => by
      cases z : H b with
      | none => rfl
      | some u =>
        have eb : b = a := one b (by rw [z]; simp)
        rw [eb, at_] at e
        cases e
        cases (show Data.seq us.toArray _ = Data.dict es m from hd)
    have nsb : ∀ {b : Addr} {m : Str → Option Value}, st.heap.Ns b m → (hidT st.heap H).Ns b m := fun {b m} ⟨o, es, n, e, d, r⟩ => ⟨o, es, n, hidT_get e (dict e d), d, r⟩
    have kb : K.In (hidT st.heap H) := fun b o e => hidT_get (kin b o e) (by
      cases z : H b with
      | none => rfl
      | some u =>
        have eb : b = a := one b (by rw [z]; simp)
        rw [eb] at e z
        rw [nk (by rw [z]; simp)] at e
        cases e)
    have md : Mod K mg (hidT st.heap H) := ⟨kb, nsb ng, ⟨mb, nsb nb, bb⟩, let ⟨mc, h1, h2⟩ := nl; ⟨mc, nsb h1, h2⟩⟩
    have en : Env0 P w K mg (hidT st.heap H) callerA [] st H := ⟨rfl, md, fun b o e => of_hidT e, Nat.le_of_eq (hidT_size _ _), trivial, (fun b hb => absurd (show b ∈ ([] : List Addr) from hb) (by simp)), hok, .of_eq gn⟩
    refine codeAny_mono ((F _ kb (nsb ng)).run callerA rfl [] st H ⟨[.ref a], []⟩ [.ref a] [.ref a] _ _ rm en (bd st (.ref a)) (.cons rfl .nil) (hs H only sq)) fun r s' h => ?_
    match r, h with
    | .error e, h => exact (cx_no h).elim
    | .ok .next, h => exact False.elim h
    | .ok .brk, h => exact False.elim h
    | .ok .cont, h => exact False.elim h
    | .ok (.ret u), ⟨v, H', os, bare, un, hok', r', q⟩ =>
      have q : v = .bl true := q
      subst q
      cases (show u = Value.bool true from r')
      refine ⟨rfl, OldK.of_keep fun b o e => ?_, os, bare⟩
      cases z : H b with
      | none => exact un.keep b o e z (fun y => by cases y) (by simp)
      | some u =>
        rcases only b with y | ⟨ob, xs, y⟩
        · rw [z] at y; cases y
        · obtain ⟨e1, _⟩ := hok b _ y
          obtain ⟨e2, _⟩ := hok' b _ (un.frzs b ob _ y)
          rw [e] at e1; cases e1
          exact e2
  cases hk : K.lookup a with
  | some o =>
    have e := kin a o hk
    rw [at_] at e
    cases e
    exact go (fun _ => none) (fun _ => .inl rfl) (.inr ⟨_, us.toArray, _, hk, rfl, rfl, rfl, by rw [List.size_toArray, ia.length]; exact le, by simpa using rv⟩) (fun b u z => by cases (show (none : Option HO) = some u from z)) (fun b z => absurd rfl z) fun z => absurd rfl z
  | none =>
    have here : ∀ b, (if b = a then some (HO.frz { cls := .type "list", data := .seq us.toArray } (.lst (ns.map V.int))) else none) ≠ none → b = a := fun b z => by
      by_cases e : b = a
      · exact e
      · exact absurd (if_neg e) z
    refine go (fun b => if b = a then some (.frz { cls := .type "list", data := .seq us.toArray } (.lst (ns.map V.int))) else none) (fun b => ?_) (.inl (.inr ⟨_, if_pos rfl⟩)) (fun b u z => ?_) here fun _ => hk
    · by_cases e : b = a
      · exact .inr ⟨_, _, if_pos e⟩
      · exact .inl (if_neg e)
    · have e : b = a := here b (fun y => by cases z.symm.trans y)
      subst e
      cases (if_pos rfl).symm.trans z
      exact ⟨at_, by rw [List.length_map]; exact le, us, _, rv, at_⟩
theorem walkG {l : PySem.W.OpenLaw} {n k : Nat} {q : Program} {loose : List Str} {XP : (Str → Option Value) → Heap → Prop} {YP : World → Heap → Prop} {d : DefRec} {x : Str}
    (hn : l.most = some n) (hn2 : n ≤ sizeLine) (hdf : d.params.defaults = []) (hr : Room k callerA)
    (F : ∀ (w : World) (mg : Str → Option Value) (fa : Addr) (h : Heap), YP w h → h.Ns mainGlobals mg → mg d.name = some (.ref fa) →
      ∃ (K : PySem.W.Frag) (fd : FuncData) (sp : Sp), K.In h ∧ (∀ (s : Shared) (u : Value), BindsTo s fd ⟨[u], []⟩ [(x, u)]) ∧
        (∀ (H : Hp) (a : Addr) (ns : List Int), ns.length ≤ n → Only H → SqL K H a (ns.map V.int) → sp [.ref a] H (fun v _ => v = .bl true) fun _ _ _ => False) ∧
        ∀ base : Heap, K.In base → base.Ns mainGlobals mg → FnG l.prog w K mg base (CX l.prog w) k fa fd [x] sp) :
    PySem.W.WalkO q loose XP YP l.row.toRowW d [] (fun f vs => PySem.call f vs) := by
  refine Att.attach_call hn hdf fun w s0 s1 mg mb fa o pm cd doc a vs ns G Y ho hd hcd hmg hobj hints hlen hg => ?_
  obtain ⟨K, fd, sp, KX, hb, hsp, hF⟩ := F w mg fa _ Y G.T.g hmg
  exact lawG KX G.T.g G.T.b G.T.builtins G.T.nolimit hg hobj hints (Nat.le_trans hlen hn2) hr hF hb fun H hO hS => hsp H a ns hlen hO hS
end Dw
set_option Elab.async false
set_option linter.all false
set_option maxRecDepth 100000
set_option maxHeartbeats 4000000
/-! The whole, put together: what is to be given of a law. -/
namespace Dw
open PySem PySem.Spec PyProof.Rows L2
abbrev AlA : Type := Bool × List He.FnW
def obsA (P : Pg) (fns : List DfD) (K : PySem.W.Frag) : AlA := (fxB P (fns.map DfD.at_) K && fns.all (fun d => d.ok K), fns.map fun d => d.see K)
def valA (fns : List DfD) : AlA := (true, fns.map DfD.val)
def asE (g : Addr → Option Obj) : Nat → List Addr
  | 0 => [mainGlobals, cStatics]
  | n + 1 => He.growD g (asE g n)
def obsAG (n : Nat) (P : Pg) (fns : List DfD) (g : Addr → Option Obj) : AlA := obsA P fns (He.frG g (asE g n))
def hookA (n : Nat) (P : Pg) (fns : List DfD) : PySem.W.Hook where
  α := AlA
  obs := fun s => obsAG n P fns s.heap.get?
  val := fun _ => valA fns
  says := fun _ h => ∃ K : PySem.W.Frag, K.In h ∧ obsA P fns K = valA fns
  of := fun _ _ e => ⟨_, He.frG_in, e⟩
  keeps := fun _ _ _ ⟨K, hK, c⟩ k => ⟨K, PySem.W.Frag.In.keeps hK k, c⟩
theorem obsAG_eq {n : Nat} {P : Pg} {fns : List DfD} {g : Addr → Option Obj} {s : Shared} (h : ∀ a, g a = s.heap.get? a) : obsAG n P fns g = (hookA n P fns).obs s := by
  have e : g = s.heap.get? := funext h
  rw [e] <;> rfl
/-- a def's text and its short form, as far as they stand written -/
structure StOk (P : Pg) (d : DfD) (f : FnI) (b : Sms × Nat) : Prop where
  ex : ∃ N : List Str, FnScope N f.ps d.scope ∧ N.length = b.2 ∧ chB P N d.scope b.1 d.body = true
  pos : ∀ (kV doc pm cv ct : Value) (an : Option Addr) (us : List Value), us.length = f.ps.length → bindArgs (PySem.W.fnOf d.name d.qual d.params d.body d.scope .none kV doc pm an cv ct) ⟨us, []⟩ = pure (f.ps.zip us)
  kw : ∀ n ks perm, (n, ks, perm) ∈ f.kw → perm.length = f.ps.length ∧ (∀ i ∈ perm, i < n + ks.length) ∧ ∀ (kV doc pm cv ct : Value) (an : Option Addr) (us ws : List Value), us.length = n → ws.length = ks.length →
    bindArgs (PySem.W.fnOf d.name d.qual d.params d.body d.scope .none kV doc pm an cv ct) ⟨us, ks.zip ws⟩ = pure (f.ps.zip (arr perm (us ++ ws)))
def AllSt (P : Pg) : List DfD → List FnI → List (Sms × Nat) → Prop
  | [], [], _ => True
  | d :: ds, f :: fs, b :: bs => StOk P d f b ∧ AllSt P ds fs bs
  | _, _, _ => False
theorem allSt_at {P : Pg} : ∀ {ds : List DfD} {fs : List FnI} {bs : List (Sms × Nat)}, AllSt P ds fs bs → ∀ (i : Nat) (f : FnI), fs[i]? = some f → ∃ d b, ds[i]? = some d ∧ bs[i]? = some b ∧ StOk P d f b
  | [], [], _, _, i, f, e => by simp at e
  | d :: ds, f' :: fs, b :: bs, h, i, f, e => by
    cases i with
    | zero => simp at e; subst e; exact ⟨d, b, rfl, rfl, h.1⟩
    | succ i => simpa using allSt_at h.2 i f (by simpa using e)
  | [], _ :: _, _, h, _, _, _ => h.elim
  | _ :: _, [], _, h, _, _, _ => h.elim
  | _ :: _, _ :: _, [], h, _, _, _ => h.elim
theorem stOk_fnT {P : Pg} {K : PySem.W.Frag} {d : DfD} {f : FnI} {b : Sms × Nat} (S : StOk P d f b) (e : d.see K = d.val) (c : d.ok K = true) : FnT P K (d.at_.adr K) f b := by
  obtain ⟨_, _, oc, od, kV, doc, pm, cv, ct, an, sl, h1, h2⟩ := DfD.fn e c
  obtain ⟨N, s1, s2, s3⟩ := S.ex
  refine ⟨oc, od, d.name, d.qual, d.params, d.body, d.scope, .none, kV, doc, pm, cv, ct, an, sl, N, h1, h2, s1, s2, s3, fun s us _ hl => BindsTo.of_eq (S.pos _ _ _ _ _ _ us hl), fun n ks perm hm => ?_⟩
  obtain ⟨p1, p2, p3⟩ := S.kw n ks perm hm
  exact ⟨p1, p2, fun s us ws _ l1 l2 => BindsTo.of_eq (p3 _ _ _ _ _ _ us ws l1 l2)⟩
def cx0 (P : Program) (w : World) (K : PySem.W.Frag) (mg : Str → Option Value) (base : Heap) : Cx where
  prog := P
  w := w
  K := K
  mg := mg
  base := base
  A := callerA
  N := []
  s_0 := ⟨base, #[], {}, 0, default⟩
  H_0 := fun _ => none
  env := default
  outer := []
  stack := []
  ex := []
  fn := fun _ => true
  calm := true
  pn := []
  xe := fun _ _ => False
theorem repL_ints {K : PySem.W.Frag} {ca : Nat → Addr} {G : Hp} : ∀ ns : List Int, RepL K ca G (ns.map D.int) (ns.map V.int)
  | [] => .nil
  | n :: ns => .cons (.int n) (repL_ints ns)
/-- the law's promise gives what the end asks for -/
theorem promise {P : Pg} {B : List (Sms × Nat)} {fns : List DfD} {prog : Program} {nm x : Str} {li n : Nat} {dl : DfD} {fl : FnI} (hS : AllSt P fns P.fns B) (hR : repB P B = true) (hl : fns[li]? = some dl) (hf : P.fns[li]? = some fl) (hat : dl.at_ = .glo nm) (hps : fl.ps = [x]) (hg : P.glo.lookup nm = some (.fn li))
    (hL : ∀ ns : List Int, ns.length ≤ 63 → phiN P B (n + 1) li [.rol (ns.map D.int)] (fun _ => none) (fun d fr _ => d = .bl true ∧ fr = false) (fun _ _ => False))
    {w : World} {mg : Str → Option Value} {fa : Addr} {h : Heap} {K : PySem.W.Frag} (KX : K.In h) (c : obsA P fns K = valA fns) (G : h.Ns mainGlobals mg) (hmg : mg nm = some (.ref fa)) :
    ∃ (fd : FuncData) (sp : Sp), (∀ (s : Shared) (u : Value), BindsTo s fd ⟨[u], []⟩ [(x, u)]) ∧
      (∀ (H : Hp) (a : Addr) (ns : List Int), ns.length ≤ 63 → Only H → SqL K H a (ns.map V.int) → sp [.ref a] H (fun v _ => v = .bl true) fun _ _ _ => False) ∧
      ∀ base : Heap, K.In base → base.Ns mainGlobals mg → FnG prog w K mg base (CX prog w) (2 * (n + 1) + 26) fa fd [x] sp := by
  have c1 : (fxB P (fns.map DfD.at_) K && fns.all (fun d => d.ok K)) = true := congrArg (fun z : AlA => z.1) c
  have c2 : fns.map (fun d => d.see K) = fns.map DfD.val := congrArg (fun z : AlA => z.2) c
  rw [Bool.and_eq_true, List.all_eq_true] at c1
  have at_ : ∀ {i : Nat} {d : DfD}, fns[i]? = some d → d.see K = d.val ∧ d.ok K = true ∧ faK (fns.map DfD.at_) K i = d.at_.adr K := fun {i d} e => by
    refine ⟨?_, c1.2 d (List.mem_of_getElem? e), ?_⟩
    · have q : (fns.map fun d => d.see K)[i]? = (fns.map DfD.val)[i]? := by rw [c2]
      rw [List.getElem?_map, List.getElem?_map, e] at q
      exact Option.some.inj q
    · unfold faK; rw [List.getElem?_map, e]; rfl
  have T : ∀ i f, P.fns[i]? = some f → ∃ b, B[i]? = some b ∧ FnT P K (faK (fns.map DfD.at_) K i) f b := fun i f e => by
    obtain ⟨d, b, h1, h2, S⟩ := allSt_at hS i f e
    obtain ⟨q1, q2, q3⟩ := at_ h1
    rw [q3]
    exact ⟨b, h2, stOk_fnT S q1 q2⟩
  have fin : ∀ i f, P.fns[i]? = some f → PySem.W.fnIn K (faK (fns.map DfD.at_) K i) = true := fun i f e => by
    obtain ⟨d, b, h1, h2, S⟩ := allSt_at hS i f e
    obtain ⟨q1, q2, q3⟩ := at_ h1
    rw [q3]
    exact (DfD.fn q1 q2).2.1
  have efa : fa = faK (fns.map DfD.at_) K li := by
    have F0 := fx_of (w := w) (X := cx0 prog w K mg h) (P := P) (B := B) (ats := fns.map DfD.at_) (K := K) rfl KX G c1.1 hR T fin
    have q := (F0.gfn nm li hg).2.1
    have q : mg nm = some (.ref (faK (fns.map DfD.at_) K li)) := q
    rw [hmg] at q
    cases q; rfl
  obtain ⟨b, hB, t⟩ := T li fl hf
  have tex := t.ex
  obtain ⟨oc, od, nm', qn, pr, body, sc, dV, kV, doc, pm, cv, ct, an, sl, N, t1, t2, t3, t4, t5, t6, t7⟩ := tex
  refine ⟨PySem.W.fnOf nm' qn pr body sc dV kV doc pm an cv ct, spW K (caK P K) 1 (phiN P B (n + 1) li), fun s u => ?_, fun H a ns hl hO hSq => ?_, fun base kb gb => ?_⟩
  · obtain ⟨q1, q2, q3⟩ := at_ hl
    obtain ⟨d, b', h1, h2, S⟩ := allSt_at hS li fl hf
    rw [hl] at h1; cases h1
    obtain ⟨_, _, oc2, od2, kV2, doc2, pm2, cv2, ct2, an2, sl2, z1, z2⟩ := DfD.fn q1 q2
    rw [q3, z1] at t1
    have e := Option.some.inj t1
    have e2 : PySem.W.fnOf nm' qn pr body sc dV kV doc pm an cv ct = PySem.W.fnOf dl.name dl.qual dl.params dl.body dl.scope .none kV2 doc2 pm2 an2 cv2 ct2 := by
      injection e with _ _ e3 _
      injection e3 with e4
      exact e4.symm
    rw [e2]
    have z := S.pos kV2 doc2 pm2 cv2 ct2 an2 [u] (by rw [hps]; rfl)
    rw [hps] at z
    exact BindsTo.of_eq z
  · refine ⟨H, fun _ => none, [.rol (ns.map D.int)], ⟨Same.refl _, fun _ _ e => nomatch e⟩, .cons (.rol hSq (repL_ints ns)) .nil, rfl, ?_⟩
    refine phiN_mono (n + 1) li _ _ (fun d fr cs ⟨e1, e2⟩ G' H' v s1 ok1 r1 => ?_) (fun _ _ z => z.elim) (hL ns hl)
    subst e1; subst e2
    unfold RepR at r1
    rw [if_neg Bool.false_ne_true] at r1
    cases r1; rfl
  · have F0 := fx_of (w := w) (X := cx0 prog w K mg base) (P := P) (B := B) (ats := fns.map DfD.at_) (K := K) rfl kb gb c1.1 hR T fin
    obtain ⟨fd, oc', od', sl', hK, F, _⟩ := fn_step (X := cx0 prog w K mg base) (fx_n (X := cx0 prog w K mg base) F0 T n) hB t
    have hK : K.lookup (faK (fns.map DfD.at_) K li) = some ⟨oc', od', .func fd, sl'⟩ := hK
    rw [t1] at hK
    have e := Option.some.inj hK
    injection e with _ _ e3 _
    injection e3 with e4
    rw [efa, e4, ← hps]
    have hl1 : fl.ps.length = 1 := by rw [hps]; rfl
    rw [hl1] at F
    exact F
end Dw
set_option linter.all false
set_option maxRecDepth 10000
/-! Endless words as functions: periods, plain tellings, what agrees long enough. -/
namespace Wd
def cyc (l : List Nat) (n : Nat) : Nat := l.getD (n % l.length) 0
def sq (b l : List Nat) (n : Nat) : Nat := if n < b.length then b.getD n 0 else cyc l (n - b.length)
def Per (f : Nat → Nat) (p : Nat) : Prop := ∀ n, f (n + p) = f n
section
variable {f g : Nat → Nat} {p q k : Nat}
theorem Per.mul (h : Per f p) : ∀ (k n : Nat), f (n + p * k) = f n
  | 0, n => by simp
  | k + 1, n => by
    have := h.mul k (n + p)
    rw [Nat.mul_succ, show n + (p * k + p) = n + p + p * k by omega, this, h]
theorem Per.sub (h : Per f p) (h' : Per f q) (hle : p ≤ q) : Per f (q - p) := fun n => by
  rw [← h (n + (q - p)), show n + (q - p) + p = n + q by omega, h']
theorem Per.mod (h : Per f p) (h' : Per f q) : Per f (q % p) := fun n => by
  have e := h.mul (q / p) (n + q % p)
  rw [← e, show n + q % p + p * (q / p) = n + q by have := Nat.mod_add_div q p; omega, h']
/-- a least period divides each one -/
theorem Per.dvd (hp : 0 < p) (h : Per f p) (least : ∀ k, 0 < k → k < p → ¬ Per f k) (h' : Per f q) : p ∣ q := by
  rcases Nat.eq_zero_or_pos (q % p) with z | z
  · exact Nat.dvd_of_mod_eq_zero z
  · exact absurd (h.mod h') (least _ z (Nat.mod_lt _ hp))
end
theorem cyc_per (l : List Nat) : Per (cyc l) l.length := fun n => by unfold cyc; rw [Nat.add_mod_right]
theorem cyc_lt {l : List Nat} {n : Nat} (h : n < l.length) : cyc l n = l.getD n 0 := by unfold cyc; rw [Nat.mod_eq_of_lt h]
theorem sq_nil (l : List Nat) : sq [] l = cyc l := by funext n; unfold sq; simp
theorem sq_lt {b l : List Nat} {n : Nat} (h : n < b.length) : sq b l n = b.getD n 0 := by unfold sq; rw [if_pos h]
theorem sq_ge {b l : List Nat} {n : Nat} (h : b.length ≤ n) : sq b l n = cyc l (n - b.length) := by unfold sq; rw [if_neg (by omega)]
theorem sq_per {b l : List Nat} {n : Nat} (h : b.length ≤ n) : sq b l (n + l.length) = sq b l n := by
  rw [sq_ge h, sq_ge (by omega), show n + l.length - b.length = n - b.length + l.length by omega, cyc_per]
theorem sq_per_mul {b l : List Nat} {n : Nat} (h : b.length ≤ n) (k : Nat) : sq b l (n + l.length * k) = sq b l n := by
  rw [sq_ge h, sq_ge (by omega), show n + l.length * k - b.length = n - b.length + l.length * k by omega, (cyc_per l).mul]
def Prim (l : List Nat) : Prop := 0 < l.length ∧ ∀ k, 0 < k → k < l.length → ¬ Per (cyc l) k
/-- the plain telling -/
def Canon (b l : List Nat) : Prop := Prim l ∧ (0 < b.length → b.getD (b.length - 1) 0 ≠ l.getD (l.length - 1) 0)
theorem per_of_eq {b l b' l' : List Nat} (hl : 0 < l.length) (e : ∀ n, sq b l n = sq b' l' n) : Per (cyc l) l'.length := fun n => by
  have hk : b'.length ≤ l.length * b'.length := Nat.le_mul_of_pos_left _ hl
  have q1 : ∀ m, cyc l m = sq b l (m + b.length) := fun m => by rw [sq_ge (by omega), Nat.add_sub_cancel]
  have q2 : ∀ m, cyc l m = sq b l (m + l.length * b'.length + b.length) := fun m => by rw [← q1, (cyc_per l).mul]
  rw [q2 (n + l'.length), q2 n, e, e, show n + l'.length + l.length * b'.length + b.length = n + l.length * b'.length + b.length + l'.length by omega, sq_per (by omega)]
theorem begin_le {b l b' l' : List Nat} (c' : Canon b' l') (hp : l.length = l'.length) (e : ∀ n, sq b l n = sq b' l' n) : b'.length ≤ b.length := by
  rcases Nat.lt_or_ge b.length b'.length with h | h
  · exfalso
    refine c'.2 (by omega) ?_
    have h0 := c'.1.1
    have e1 : sq b' l' (b'.length - 1) = b'.getD (b'.length - 1) 0 := sq_lt (by omega)
    have e2 : sq b' l' (b'.length - 1 + l'.length) = l'.getD (l'.length - 1) 0 := by
      rw [sq_ge (by omega), show b'.length - 1 + l'.length - b'.length = l'.length - 1 by omega, cyc_lt (by omega)]
    rw [← e1, ← e2, ← e, ← e, ← hp, sq_per (by omega)]
  · exact h
theorem getD_ext {l m : List Nat} (hl : l.length = m.length) (h : ∀ n, n < l.length → l.getD n 0 = m.getD n 0) : l = m := by
  apply List.ext_getElem hl
  intro n h1 h2
  have := h n h1
  simpa [List.getD, h1, h2] using this
theorem canon_unique {b l b' l' : List Nat} (c : Canon b l) (c' : Canon b' l') (e : ∀ n, sq b l n = sq b' l' n) : b = b' ∧ l = l' := by
  have d1 : l.length ∣ l'.length := Per.dvd c.1.1 (cyc_per l) c.1.2 (per_of_eq c.1.1 e)
  have d2 : l'.length ∣ l.length := Per.dvd c'.1.1 (cyc_per l') c'.1.2 (per_of_eq c'.1.1 fun n => (e n).symm)
  have hp : l.length = l'.length := Nat.dvd_antisymm d1 d2
  have hb : b.length = b'.length := Nat.le_antisymm (begin_le c hp.symm fun n => (e n).symm) (begin_le c' hp e)
  refine ⟨getD_ext hb fun n hn => ?_, getD_ext hp fun n hn => ?_⟩
  · have := e n
    rwa [sq_lt hn, sq_lt (by omega)] at this
  · have := e (n + b.length)
    rwa [sq_ge (by omega), sq_ge (by omega), Nat.add_sub_cancel, show n + b.length - b'.length = n by omega, cyc_lt hn, cyc_lt (by omega)] at this
/-- what agrees as long as the longer begin and both laps agrees for ever -/
theorem agree {b l b' l' : List Nat} (hl : 0 < l.length) (hl' : 0 < l'.length) (h : ∀ n, n < max b.length b'.length + l.length + l'.length → sq b l n = sq b' l' n) : ∀ n, sq b l n = sq b' l' n := by
  intro n
  induction n using Nat.strongRecOn with
  | _ n ih =>
    rcases Nat.lt_or_ge n (max b.length b'.length + l.length + l'.length) with c | c
    · exact h n c
    · have m1 : b.length ≤ max b.length b'.length := Nat.le_max_left _ _
      have m2 : b'.length ≤ max b.length b'.length := Nat.le_max_right _ _
      have a1 : sq b l n = sq b l (n - l.length) := by
        have := sq_per (b := b) (l := l) (n := n - l.length) (by omega)
        rwa [Nat.sub_add_cancel (by omega)] at this
      have a2 : sq b' l' (n - l.length) = sq b' l' (n - l.length - l'.length) := by
        have := sq_per (b := b') (l := l') (n := n - l.length - l'.length) (by omega)
        rwa [Nat.sub_add_cancel (by omega)] at this
      have a3 : sq b l (n - l'.length) = sq b l (n - l'.length - l.length) := by
        have := sq_per (b := b) (l := l) (n := n - l'.length - l.length) (by omega)
        rwa [Nat.sub_add_cancel (by omega)] at this
      have a4 : sq b' l' n = sq b' l' (n - l'.length) := by
        have := sq_per (b := b') (l := l') (n := n - l'.length) (by omega)
        rwa [Nat.sub_add_cancel (by omega)] at this
      rw [a1, ih _ (by omega), a2, a4, ← ih (n - l'.length) (by omega), a3, ← ih (n - l.length - l'.length) (by omega), show n - l.length - l'.length = n - l'.length - l.length by omega]
/-! ### the plain telling, as the program finds it -/
def rotOk (l : List Nat) (k : Nat) : Prop := ((l ++ l).drop k).take l.length = l
theorem two_cyc {l : List Nat} {n : Nat} (h : n < l.length + l.length) : (l ++ l).getD n 0 = cyc l n := by
  unfold cyc
  rcases Nat.lt_or_ge n l.length with c | c
  · rw [Nat.mod_eq_of_lt c]; simp [List.getD, List.getElem?_append_left c]
  · rw [Nat.mod_eq_sub_mod c, Nat.mod_eq_of_lt (by omega)]; simp [List.getD, List.getElem?_append_right c]
theorem rot_at {l : List Nat} {k n : Nat} (hn : n < l.length) : (((l ++ l).drop k).take l.length).getD n 0 = (l ++ l).getD (k + n) 0 := by
  simp only [List.getD]
  rw [List.getElem?_take_of_lt hn, List.getElem?_drop]
theorem rotOk_per {l : List Nat} {k : Nat} (hk : k ≤ l.length) (h : rotOk l k) : Per (cyc l) k := fun n => by
  rcases Nat.eq_zero_or_pos l.length with z | z
  · unfold cyc
    have : l = [] := List.eq_nil_of_length_eq_zero z
    subst this; simp
  · have hm := Nat.mod_lt n z
    have e1 : (((l ++ l).drop k).take l.length).getD (n % l.length) 0 = l.getD (n % l.length) 0 := by rw [h]
    rw [rot_at hm, two_cyc (by omega)] at e1
    have e2 : cyc l (n + k) = cyc l (k + n % l.length) := by unfold cyc; rw [Nat.add_comm n k, Nat.add_mod_mod]
    rw [e2, e1]; rfl
theorem per_rotOk {l : List Nat} {k : Nat} (hk : k ≤ l.length) (h : Per (cyc l) k) : rotOk l k := by
  refine getD_ext (by simp; omega) fun n hn => ?_
  have hn : n < l.length := by simp at hn; omega
  rw [rot_at hn, two_cyc (by omega), Nat.add_comm k n, h, cyc_lt hn]
theorem cyc_take {l : List Nat} {k : Nat} (h0 : 0 < k) (hk : k ≤ l.length) (h : Per (cyc l) k) (n : Nat) : cyc (l.take k) n = cyc l n := by
  have hl : (l.take k).length = k := by simp; omega
  have hm := Nat.mod_lt n h0
  have e : cyc l n = cyc l (n % k) := by
    have := h.mul (n / k) (n % k)
    rwa [Nat.mod_add_div] at this
  have e2 : cyc (l.take k) n = (l.take k).getD (n % k) 0 := by unfold cyc; rw [hl]
  rw [e, e2, cyc_lt (l := l) (n := n % k) (by omega)]
  simp only [List.getD]
  rw [List.getElem?_take_of_lt hm]
/-- the shortest lap: the first turn that gives the lap again -/
theorem prim_take {l : List Nat} {k : Nat} (h0 : 0 < k) (hk : k ≤ l.length) (h : rotOk l k) (least : ∀ j, 0 < j → j < k → ¬ rotOk l j) : Prim (l.take k) := by
  have hl : (l.take k).length = k := by simp; omega
  have hp := rotOk_per hk h
  refine ⟨by omega, fun j j0 j1 hj => least j j0 (by omega) (per_rotOk (by omega) fun n => ?_)⟩
  have := hj n
  rwa [cyc_take h0 hk hp, cyc_take h0 hk hp] at this
theorem cyc_rot {l : List Nat} {t : Nat} (ht : t ≤ l.length) (n : Nat) : cyc (l.drop t ++ l.take t) n = cyc l (n + t) := by
  rcases Nat.eq_zero_or_pos l.length with z | z
  · have : l = [] := List.eq_nil_of_length_eq_zero z
    subst this; simp [cyc]
  · have hl : (l.drop t ++ l.take t).length = l.length := by simp; omega
    have hm := Nat.mod_lt n z
    have e : cyc l (n + t) = cyc l (n % l.length + t) := by unfold cyc; rw [Nat.mod_add_mod]
    have e3 : cyc (l.drop t ++ l.take t) n = (l.drop t ++ l.take t).getD (n % l.length) 0 := by unfold cyc; rw [hl]
    have e4 : cyc l (n % l.length + t) = l.getD ((n % l.length + t) % l.length) 0 := rfl
    have hd : (l.drop t).length = l.length - t := by simp
    rw [e, e3, e4]
    rcases Nat.lt_or_ge (n % l.length + t) l.length with c | c
    · rw [Nat.mod_eq_of_lt c]
      simp only [List.getD]
      rw [List.getElem?_append_left (by omega), List.getElem?_drop, Nat.add_comm]
    · rw [Nat.mod_eq_sub_mod c, Nat.mod_eq_of_lt (a := n % l.length + t - l.length) (by omega)]
      simp only [List.getD]
      rw [List.getElem?_append_right (by omega), List.getElem?_take_of_lt (by omega), hd]
      congr 2
      omega
theorem prim_rot {l : List Nat} {t : Nat} (ht : t ≤ l.length) (h : Prim l) : Prim (l.drop t ++ l.take t) := by
  have hl : (l.drop t ++ l.take t).length = l.length := by simp; omega
  refine ⟨by rw [hl]; exact h.1, fun k k0 k1 hk => h.2 k k0 (by omega) fun n => ?_⟩
  have e : ∀ m, cyc l m = cyc (l.drop t ++ l.take t) (m + (l.length - t)) := fun m => by
    rw [cyc_rot ht, show m + (l.length - t) + t = m + l.length by omega, cyc_per]
  rw [e, e n, show n + k + (l.length - t) = n + (l.length - t) + k by omega, hk]
/-- the letters at the end of the begin that go round with the lap, taken into it -/
theorem canon_of {b l : List Nat} {s : Nat} (hp : Prim l) (hs : s ≤ b.length) (same : ∀ j, j < s → b.getD (b.length - 1 - j) 0 = l.getD (l.length - 1 - j % l.length) 0)
    (stop : s < b.length → b.getD (b.length - 1 - s) 0 ≠ l.getD (l.length - 1 - s % l.length) 0) :
    Canon (b.take (b.length - s)) (l.drop (l.length - s % l.length) ++ l.take (l.length - s % l.length)) ∧
    ∀ n, sq (b.take (b.length - s)) (l.drop (l.length - s % l.length) ++ l.take (l.length - s % l.length)) n = sq b l n := by
  have z := hp.1
  have hm := Nat.mod_lt s z
  have ht : l.length - s % l.length ≤ l.length := Nat.sub_le _ _
  have hb : (b.take (b.length - s)).length = b.length - s := by simp
  have hl : (l.drop (l.length - s % l.length) ++ l.take (l.length - s % l.length)).length = l.length := by simp
  have key : ∀ j, j ≤ s → cyc l (s - j + (l.length - 1 - s % l.length)) = l.getD (l.length - 1 - j % l.length) 0 := fun j hj => by
    have hmj := Nat.mod_lt j z
    have d1 := Nat.mod_add_div s l.length
    have d2 := Nat.mod_add_div j l.length
    have hdv : j / l.length ≤ s / l.length := Nat.div_le_div_right hj
    obtain ⟨c, hc⟩ : ∃ c, s / l.length = j / l.length + c := ⟨s / l.length - j / l.length, by omega⟩
    have e : s - j + (l.length - 1 - s % l.length) = l.length - 1 - j % l.length + l.length * c := by
      rw [hc, Nat.mul_add] at d1
      omega
    rw [e, (cyc_per l).mul, cyc_lt (by omega)]
  refine ⟨⟨prim_rot ht hp, fun h0 => ?_⟩, fun n => ?_⟩
  · rw [hb] at h0 ⊢
    have h1 : s < b.length := by omega
    have e1 : (b.take (b.length - s)).getD (b.length - s - 1) 0 = b.getD (b.length - 1 - s) 0 := by
      simp only [List.getD]
      rw [List.getElem?_take_of_lt (by omega), show b.length - s - 1 = b.length - 1 - s by omega]
    have e2 : (l.drop (l.length - s % l.length) ++ l.take (l.length - s % l.length)).getD ((l.drop (l.length - s % l.length) ++ l.take (l.length - s % l.length)).length - 1) 0 = l.getD (l.length - 1 - s % l.length) 0 := by
      rw [← cyc_lt (by omega), cyc_rot ht, hl, show l.length - 1 + (l.length - s % l.length) = l.length - 1 - s % l.length + l.length by omega, cyc_per, cyc_lt (by omega)]
    rw [e1, e2]
    exact stop h1
  · rcases Nat.lt_or_ge n (b.length - s) with c | c
    · rw [sq_lt (by omega), sq_lt (by omega)]
      simp only [List.getD]
      rw [List.getElem?_take_of_lt c]
    · rw [sq_ge (by omega), cyc_rot ht, hb]
      rcases Nat.lt_or_ge n b.length with d | d
      · rw [sq_lt d]
        have := same (b.length - 1 - n) (by omega)
        rw [show b.length - 1 - (b.length - 1 - n) = n by omega] at this
        rw [this, ← key (b.length - 1 - n) (by omega)]
        congr 1
        omega
      · rw [sq_ge d]
        have d1 := Nat.mod_add_div s l.length
        rw [show n - (b.length - s) + (l.length - s % l.length) = n - b.length + l.length * (s / l.length + 1) by rw [Nat.mul_add]; omega, (cyc_per l).mul]

theorem sq_drop {b l : List Nat} {k : Nat} (h : k ≤ b.length) (n : Nat) : sq (b.drop k) l n = sq b l (n + k) := by
  have hd : (b.drop k).length = b.length - k := by simp
  rcases Nat.lt_or_ge (n + k) b.length with c | c
  · rw [sq_lt (by omega), sq_lt c]
    simp only [List.getD]
    rw [List.getElem?_drop, Nat.add_comm]
  · rw [sq_ge (by omega), sq_ge c, hd, show n - (b.length - k) = n + k - b.length by omega]
theorem sq_turn {b l : List Nat} {k : Nat} (hl : 0 < l.length) (h : b.length ≤ k) (n : Nat) : sq [] (l.drop ((k - b.length) % l.length) ++ l.take ((k - b.length) % l.length)) n = sq b l (n + k) := by
  rw [sq_nil, cyc_rot (Nat.le_of_lt (Nat.mod_lt _ hl)), sq_ge (by omega)]
  unfold cyc
  rw [Nat.add_mod_mod, show n + (k - b.length) = n + k - b.length by omega]
/-- the first letters -/
def pre (b l : List Nat) (k : Nat) : List Nat := (List.range k).map (sq b l)
theorem pre_length (b l : List Nat) (k : Nat) : (pre b l k).length = k := by unfold pre; simp
theorem pre_getD {b l : List Nat} {k i : Nat} (h : i < k) : (pre b l k).getD i 0 = sq b l i := by unfold pre; simp [List.getD, h]
def laps (l : List Nat) (m : Nat) : List Nat := (List.replicate m l).flatten
theorem laps_length (l : List Nat) : ∀ m : Nat, (laps l m).length = m * l.length
  | 0 => by simp [laps]
  | m + 1 => by
    have := laps_length l m
    unfold laps at this ⊢
    rw [List.replicate_succ, List.flatten_cons, List.length_append, this, Nat.succ_mul, Nat.add_comm]
theorem laps_getD {l : List Nat} : ∀ {m i : Nat}, i < m * l.length → (laps l m).getD i 0 = cyc l i
  | 0, i, h => by omega
  | m + 1, i, h => by
    have ih := @laps_getD l m
    unfold laps at ih ⊢
    rw [List.replicate_succ, List.flatten_cons]
    rcases Nat.lt_or_ge i l.length with c | c
    · rw [cyc_lt c]
      simp only [List.getD]
      rw [List.getElem?_append_left c]
    · rw [Nat.succ_mul] at h
      have e := ih (i := i - l.length) (by omega)
      simp only [List.getD] at e ⊢
      rw [List.getElem?_append_right c, e]
      have := cyc_per l (i - l.length)
      rw [Nat.sub_add_cancel c] at this
      exact this.symm
theorem take_pre {b l : List Nat} {m k : Nat} (h : k ≤ b.length + m * l.length) : (b ++ laps l m).take k = pre b l k := by
  have hl := laps_length l m
  refine getD_ext (by rw [pre_length]; simp; omega) fun i hi => ?_
  have hi : i < k := by simp at hi; omega
  rw [pre_getD hi]
  simp only [List.getD]
  rw [List.getElem?_take_of_lt hi]
  rcases Nat.lt_or_ge i b.length with c | c
  · rw [List.getElem?_append_left c, sq_lt c]; rfl
  · rw [List.getElem?_append_right c, sq_ge c]
    exact laps_getD (by omega)
/-- two words: the first place where they part -/
def Parts (f g : Nat → Nat) (d : Nat) : Prop := f d ≠ g d ∧ ∀ i, i < d → f i = g i
theorem parts_unique {f g : Nat → Nat} {d e : Nat} (h : Parts f g d) (h' : Parts f g e) : d = e := by
  rcases Nat.lt_trichotomy d e with c | c | c
  · exact absurd (h'.2 d c) h.1
  · exact c
  · exact absurd (h.2 e c) h'.1
theorem parts_of {f g : Nat → Nat} : ∀ (n : Nat), (∃ i, i < n ∧ f i ≠ g i) → ∃ d, d < n ∧ Parts f g d
  | 0, ⟨i, h, _⟩ => by omega
  | n + 1, ⟨i, h, hi⟩ => by
    rcases Classical.em (∃ j, j < n ∧ f j ≠ g j) with c | c
    · obtain ⟨d, h1, h2⟩ := parts_of n c
      exact ⟨d, by omega, h2⟩
    · have e : i = n := by
        rcases Nat.lt_or_ge i n with z | z
        · exact absurd ⟨i, z, hi⟩ c
        · omega
      subst e
      exact ⟨i, by omega, hi, fun j hj => Classical.byContradiction fun z => c ⟨j, hj, z⟩⟩
end Wd
set_option Elab.async false
set_option linter.all false
set_option maxRecDepth 100000
set_option maxHeartbeats 4000000
/-! The pure side: texts as lists, loops by what stays true. -/
namespace Dw
open PySem PySem.Spec PyProof.Rows L2
def mk (l : List Nat) : Str := ⟨l.toArray⟩
theorem mk_length (l : List Nat) : (mk l).length = l.length := by show l.toArray.size = _; simp
theorem mk_tl (l : List Nat) : (mk l).cps.toList = l := rfl
theorem mk_add (a b : List Nat) : mk a ++ mk b = mk (a ++ b) := TL.ext_tl (by rw [TL.tl_append]; rfl)
theorem mk_inj {a b : List Nat} : mk a = mk b ↔ a = b := ⟨fun h => by have := congrArg (fun x : Str => x.cps.toList) h; exact this, fun h => by rw [h]⟩
theorem mk_one (c : Nat) : (⟨#[c]⟩ : Str) = mk [c] := rfl
theorem cut_mk (l : List Nat) (lo hi : Option Int) : cutS (mk l) lo hi = mk ((l.drop (HT.sIx l.length 0 lo)).take (HT.sIx l.length l.length hi - HT.sIx l.length 0 lo)) := by
  unfold cutS
  rw [mk_length]; rfl
theorem rep_mk (l : List Nat) (n : Int) : strRep (mk l) n = mk (rep l n.toNat) := rfl
theorem roK_some {d : D} {fr : Bool} {Q : D → Bool → Prop} : roK (some (d, fr)) Q = Q d fr := rfl
theorem roK_if {c : Bool} {r : D × Bool} {Q : D → Bool → Prop} : roK (if c = true then some r else none) Q = (c = true ∧ Q r.1 r.2) := by
  cases c <;> simp [roK]
theorem bK_some {b : Bool} {Q : Bool → Prop} : bK (some b) Q = Q b := rfl
theorem okSz_iff {n : Nat} : okSz n = true ↔ n ≤ sizeLine := decide_eq_true_iff
theorem phiN_succ (P : Pg) (B : List (Sms × Nat)) (n f : Nat) (ds : List D) (cs : CS) (Q : D → Bool → CS → Prop) (E : Exn → CS → Prop) : phiN P B (n + 1) f ds cs Q E = (match B[f]? with
    | some b => wpB P (phiN P B n) b.1 (startE b.2 ds) cs (fun x _ c => E x c) { nx := fun _ c => Q .non false c, rt := Q }
    | none => False) := rfl
theorem phi_at {P : Pg} {B : List (Sms × Nat)} {n f : Nat} {b : Sms × Nat} {ds : List D} {cs : CS} {Q : D → Bool → CS → Prop} {E : Exn → CS → Prop} (h : B[f]? = some b)
    (q : wpB P (phiN P B n) b.1 (startE b.2 ds) cs (fun x _ c => E x c) { nx := fun _ c => Q .non false c, rt := Q }) : phiN P B (n + 1) f ds cs Q E := by
  rw [phiN_succ, h]; exact q
theorem forL_inv {f : D → Env → CS → KT → Prop} {I : List D → Env → CS → Prop} {its : List D} {env : Env} {cs : CS} {k : KT}
    (step : ∀ pre d post env cs k, its = pre ++ d :: post → I pre env cs → (∀ e c, I (pre ++ [d]) e c → k e c) → f d env cs k) (h0 : I [] env cs) (hk : ∀ e c, I its e c → k e c) : forL f its env cs k := by
  have go : ∀ (post pre : List D) (env : Env) (cs : CS), its = pre ++ post → I pre env cs → forL f post env cs k := by
    intro post
    induction post with
    | nil => intro pre env cs e h; rw [List.append_nil] at e; subst e; exact hk _ _ h
    | cons d post ih =>
      intro pre env cs e h
      exact step pre d post env cs _ e h fun e' c' h' => ih (pre ++ [d]) e' c' (by rw [e]; simp) h'
  exact go its [] env cs rfl h0
theorem wh_inv {c : Env → CS → (Bool → KT) → Prop} {b : Env → CS → KT → Prop} {nx : KT} {I : Nat → Env → CS → Prop} {j : Nat} {env : Env} {cs : CS} (h0 : I j env cs)
    (step : ∀ j env cs (K : KT), I j env cs → (∀ i e s, i < j → I i e s → K e s) → c env cs fun t e s => if t = true then b e s K else nx e s) : ∃ n, whN c b nx n env cs := by
  have go : ∀ n j env cs, j < n → I j env cs → whN c b nx n env cs := by
    intro n
    induction n with
    | zero => intro j env cs h; omega
    | succ n ih =>
      intro j env cs hj h
      exact step j env cs _ h fun i e s hi h' => ih i e s (by omega) h'
  exact ⟨j + 1, go _ j env cs (Nat.lt_succ_self _) h0⟩

/-! ### equations, by forms -/
theorem roK_ite {p : Prop} [Decidable p] {r : D × Bool} {Q : D → Bool → Prop} : roK (if p then some r else none) Q = (p ∧ Q r.1 r.2) := by
  by_cases h : p
  · rw [if_pos h]; exact (propext ⟨fun q => ⟨h, q⟩, fun q => q.2⟩)
  · rw [if_neg h]; exact (propext ⟨fun q => q.elim, fun q => h q.1⟩)
theorem if_tt {α : Sort _} {a b : α} : (if true = true then a else b) = a := if_pos rfl
theorem if_ff {α : Sort _} {a b : α} : (if false = true then a else b) = b := if_neg Bool.false_ne_true
theorem ite_dec {p : Prop} [Decidable p] {a b : Prop} : (if decide p = true then a else b) = ((p → a) ∧ (¬ p → b)) := by
  by_cases h : p
  · simp [h]
  · simp [h]
theorem ite_bool {c : Bool} {a b : Prop} : (if c = true then a else b) = ((c = true → a) ∧ (c = false → b)) := by cases c <;> simp
theorem ite_prop {p : Prop} [Decidable p] {a b : Prop} : (if p then a else b) = ((p → a) ∧ (¬ p → b)) := by
  by_cases h : p
  · simp [h]
  · simp [h]
section
variable {cs : CS}
theorem dv_non : dv cs .non = .non := rfl
theorem dv_bl {b : Bool} : dv cs (.bl b) = .bl b := rfl
theorem dv_int {b : Int} : dv cs (.int b) = .int b := rfl
theorem dv_str {b : Str} : dv cs (.str b) = .str b := rfl
theorem dv_lst {b : List D} : dv cs (.lst b) = .lst b := rfl
theorem dv_rol {b : List D} : dv cs (.rol b) = .rol b := rfl
theorem dv_tup {b : List D} : dv cs (.tup b) = .tup b := rfl
theorem dv_dic {b : List (D × D)} : dv cs (.dic b) = .dic b := rfl
theorem dv_ins {c : Nat} {f : List (Str × D)} : dv cs (.ins c f) = .ins c f := rfl
theorem dv_cell {a : Addr} {xs : List D} (h : cs a = some (.lst xs)) : dv cs (.cell a) = .lst xs := by simp only [dv, h]
theorem io_non : insOf cs .non = none := rfl
theorem io_bl {b : Bool} : insOf cs (.bl b) = none := rfl
theorem io_int {b : Int} : insOf cs (.int b) = none := rfl
theorem io_str {b : Str} : insOf cs (.str b) = none := rfl
theorem io_lst {b : List D} : insOf cs (.lst b) = none := rfl
theorem io_rol {b : List D} : insOf cs (.rol b) = none := rfl
theorem io_tup {b : List D} : insOf cs (.tup b) = none := rfl
theorem io_dic {b : List (D × D)} : insOf cs (.dic b) = none := rfl
theorem io_ins {c : Nat} {f : List (Str × D)} : insOf cs (.ins c f) = some (c, f) := rfl
theorem io_cell {a : Addr} {xs : List D} (h : cs a = some (.lst xs)) : insOf cs (.cell a) = none := by simp only [insOf, h]
theorem io_celli {a : Addr} {c : Nat} {fs : List (Str × D)} (h : cs a = some (.ins c fs)) : insOf cs (.cell a) = some (c, fs) := by simp only [insOf, h]
end
section
variable {i j : Int} {x y : Str} {xs ys : List D} {b c : Bool} {d : D}
theorem bo_addi : binop .Add (.int i) (.int j) = some (.int (i + j), false) := rfl
theorem bo_subi : binop .Sub (.int i) (.int j) = some (.int (i - j), false) := rfl
theorem bo_muli : binop .Mult (.int i) (.int j) = if mulOk i j then some (.int (i * j), false) else none := rfl
theorem bo_muls : binop .Mult (.str x) (.int j) = if decide (-(2 ^ 62) ≤ j) && (decide (j < 2 ^ 62) && okSz (x.length * j.toNat)) then some (.str (strRep x j), false) else none := rfl
theorem bo_mull : binop .Mult (.lst xs) (.int j) = if decide (-(2 ^ 62) ≤ j) && (decide (j < 2 ^ 62) && okSz (xs.length * j.toNat)) then some (.lst (rep xs j.toNat), true) else none := rfl
theorem bo_fdiv : binop .FloorDiv (.int i) (.int j) = if decide (j ≠ 0) && decide (j.natAbs < 1073741824) then some (.int (i.fdiv j), false) else none := rfl
theorem bo_mod : binop .Mod (.int i) (.int j) = if decide (j ≠ 0) then some (.int (i.fmod j), false) else none := rfl
theorem bo_pow : binop .Pow (.int i) (.int j) = if decide (0 ≤ j) && (decide (j ≤ 1000000) && decide (i.natAbs < 2 ^ 64)) then some (.int (i ^ j.toNat), false) else none := rfl
theorem bo_adds : binop .Add (.str x) (.str y) = if okSz (x.length + y.length) then some (.str (x ++ y), false) else none := rfl
theorem bo_addl : binop .Add (.lst xs) (.lst ys) = if okSz xs.length && (okSz ys.length && okSz (xs ++ ys).length) then some (.lst (xs ++ ys), true) else none := rfl
theorem co_eqi : cmpop .Eq (.int i) (.int j) = some (decide (i = j)) := rfl
theorem co_nei : cmpop .NotEq (.int i) (.int j) = some (!decide (i = j)) := rfl
theorem co_eqs : cmpop .Eq (.str x) (.str y) = some (decide (x = y)) := rfl
theorem co_nes : cmpop .NotEq (.str x) (.str y) = some (!decide (x = y)) := rfl
theorem co_eqb : cmpop .Eq (.bl b) (.bl c) = some (b == c) := rfl
theorem co_neb : cmpop .NotEq (.bl b) (.bl c) = some (!(b == c)) := rfl
theorem co_lt : cmpop .Lt (.int i) (.int j) = some (decide (i < j)) := rfl
theorem co_le : cmpop .LtE (.int i) (.int j) = some (decide (i ≤ j)) := rfl
theorem co_gt : cmpop .Gt (.int i) (.int j) = some (decide (j < i)) := rfl
theorem co_ge : cmpop .GtE (.int i) (.int j) = some (decide (j ≤ i)) := rfl
theorem co_is : cmpop .Is d .non = some (isNon d) := rfl
theorem co_isn : cmpop .IsNot d .non = some (!isNon d) := rfl
theorem isNon_non : isNon .non = true := rfl
theorem isNon_int : isNon (.int i) = false := rfl
theorem tr_bl : truth (.bl b) = some b := rfl
theorem tr_non : truth .non = some false := rfl
theorem tr_int : truth (.int i) = some (i != 0) := rfl
theorem xi_lst : ixD (.lst xs) (.int i) = atI xs i := rfl
theorem xi_tup : ixD (.tup xs) (.int i) = atI xs i := rfl
theorem xi_rol : ixD (.rol xs) (.int i) = atI xs i := rfl
theorem xi_str : ixD (.str x) (.int i) = if okSz x.length then (atI x.cps.toList i).map fun c => .str ⟨#[c]⟩ else none := rfl
theorem bp_lens {P : Pg} : biopP P .len [.str x] = if okSz x.length then some (.int x.length, false) else none := rfl
theorem bp_lenl {P : Pg} : biopP P .len [.lst xs] = some (.int xs.length, false) := rfl
theorem bp_lent {P : Pg} : biopP P .len [.tup xs] = some (.int xs.length, false) := rfl
theorem bp_lenr {P : Pg} : biopP P .len [.rol xs] = some (.int xs.length, false) := rfl
theorem bp_abs {P : Pg} : biopP P .abs [.int i] = some (.int (if i < 0 then -i else i), false) := rfl
theorem bp_max {P : Pg} : biopP P .max [.int i, .int j] = some (.int (if j > i then j else i), false) := rfl
theorem bp_min {P : Pg} : biopP P .min [.int i, .int j] = some (.int (if j < i then j else i), false) := rfl
theorem bp_int {P : Pg} : biopP P .int [.int i] = some (.int i, false) := rfl
theorem bp_all {P : Pg} : biopP P .all [.lst xs] = (blsD xs).map fun bs => (.bl (bs.all id), false) := rfl
theorem bp_any {P : Pg} : biopP P .any [.lst xs] = (blsD xs).map fun bs => (.bl (bs.any id), false) := rfl
theorem bp_divmod {P : Pg} : biopP P .divmod [.int i, .int j] = if decide (0 < j) && decide (j < 1073741824) then some (.tup [.int (i / j), .int (i % j)], false) else none := rfl
theorem bp_repr {P : Pg} : biopP P .repr [d] = reprTop P d := rfl
theorem bp_isi {P : Pg} {t : String} : biopP P (.isi t) [d] = (isiD t d).map fun b => (.bl b, false) := rfl
theorem bp_isci {P : Pg} {c c' : Nat} {fs : List (Str × D)} : biopP P (.isc c) [.ins c' fs] = if (P.cls[c']?).isSome then some (.bl (decide (c' = c)), false) else none := rfl
theorem ls_str {lo hi : Option Int} : slD (.str x) lo hi = if okSz x.length then some (.str (cutS x lo hi), false) else none := rfl
theorem ls_lst {lo hi : Option Int} : slD (.lst xs) lo hi = some (.lst (cutD xs lo hi), true) := rfl
theorem items_lst : items (.lst xs) = some xs := rfl
theorem items_tup : items (.tup xs) = some xs := rfl
theorem items_rol : items (.rol xs) = some xs := rfl
theorem atI_at {α : Type} {l : List α} {i : Int} {k : Nat} {x : α} (h : i = k) (hx : l[k]? = some x) : atI l i = some x := by
  have hk := (List.getElem?_eq_some_iff.mp hx).1
  subst h
  unfold atI ixN
  rw [if_pos (by omega), if_pos (by omega)]
  show l[(k : Int).toNat]? = _
  rw [Int.toNat_natCast]; exact hx
theorem atI_neg {α : Type} {l : List α} {i : Int} {k : Nat} {x : α} (h0 : i < 0) (h : i + l.length = k) (hx : l[k]? = some x) : atI l i = some x := by
  unfold atI ixN
  rw [if_neg (by omega), if_pos (by omega)]
  show l[(i + l.length).toNat]? = _
  rw [h, Int.toNat_natCast]; exact hx
theorem getD_at {l : List Nat} {k : Nat} (h : k < l.length) : l[k]? = some (l.getD k 0) := by simp [List.getD, h]
end

theorem fmod_nat {a b : Nat} : ((a : Int).fmod (b : Int)) = ((a % b : Nat) : Int) := by
  rw [Int.fmod_eq_emod_of_nonneg _ (Int.natCast_nonneg b)]; rfl
theorem fdiv_nat {a b : Nat} : ((a : Int).fdiv (b : Int)) = ((a / b : Nat) : Int) := by
  rw [Int.fdiv_eq_ediv_of_nonneg _ (Int.natCast_nonneg b)]; rfl
theorem sizeL {n : Nat} (h : n ≤ 16777216) : n ≤ sizeLine := by rw [sizeLine_eq]; exact h
/-- a sign of a text -/
theorem sign_at {l : List Nat} {i : Int} {k : Nat} (h : i = k) (hk : k < l.length) : ixD (.str (mk l)) (.int i) = if l.length ≤ sizeLine then some (.str (mk [l.getD k 0])) else none := by
  rw [xi_str, mk_length, mk_tl, atI_at h (getD_at hk)]
  by_cases z : l.length ≤ sizeLine
  · rw [if_pos z, if_pos (okSz_iff.mpr z)]; rfl
  · rw [if_neg z, if_neg (fun y => z (okSz_iff.mp y))]
theorem sign_neg {l : List Nat} {i : Int} {k : Nat} (h0 : i < 0) (h : i + l.length = k) (hk : k < l.length) : ixD (.str (mk l)) (.int i) = if l.length ≤ sizeLine then some (.str (mk [l.getD k 0])) else none := by
  rw [xi_str, mk_length, mk_tl, atI_neg h0 h (getD_at hk)]
  by_cases z : l.length ≤ sizeLine
  · rw [if_pos z, if_pos (okSz_iff.mpr z)]; rfl
  · rw [if_neg z, if_neg (fun y => z (okSz_iff.mp y))]

theorem bm_asc {x : Str} : bmop .isascii (.str x) [] = some (.bl (Txt.isascii x), false) := rfl
theorem bm_alp {x : Str} : bmop .isalpha (.str x) [] = some (.bl (Txt.isalpha x), false) := rfl
theorem bm_low {x : Str} : bmop .islower (.str x) [] = some (.bl (Txt.islower x), false) := rfl
theorem bm_find {x y : Str} {i : Int} : bmop .find (.str x) [.str y, .int i] = some (.int (Txt.find3 x y i), false) := rfl
theorem isi_ss {x : Str} : isiD "str" (.str x) = some true := rfl
theorem isi_ii {i : Int} : isiD "int" (.int i) = some true := rfl
theorem isi_bi {i : Int} : isiD "bool" (.int i) = some false := rfl
theorem lit0 : Str.ofString "" = mk [] := by decide +kernel
theorem mk_dec {a b : List Nat} : (mk a = mk b) = (a = b) := propext mk_inj

theorem sf_ins {P : Pg} {a : Addr} {c : Nat} {f : Str} {d : D} {fs : List (Str × D)} {cs : CS} {k : CS → Prop} (h : cs a = some (.ins c fs)) : sfW P (.cell a) f d cs k = (P.isF c f = true ∧ fs.length < 1000 ∧ k (cset cs a (.ins c (putE f d fs)))) := by simp only [sfW, h]

theorem max_cast {x y : Nat} : (if (y : Int) > (x : Int) then (y : Int) else (x : Int)) = ((max x y : Nat) : Int) := by
  by_cases h : (y : Int) > (x : Int)
  · rw [if_pos h]; omega
  · rw [if_neg h]; omega
theorem min_cast {x y : Nat} : (if (y : Int) < (x : Int) then (y : Int) else (x : Int)) = ((min x y : Nat) : Int) := by
  by_cases h : (y : Int) < (x : Int)
  · rw [if_pos h]; omega
  · rw [if_neg h]; omega

theorem set_cell {a : Addr} {xs : List D} {i : Int} {j : Nat} {d : D} {cs : CS} {k : CS → Prop} (h : cs a = some (.lst xs)) (hj : ixN xs.length i = some j) : setW (.cell a) (.int i) d cs k = k (cset cs a (.lst (xs.set j d))) := by simp only [setW, h, hj]
theorem app_cell {a : Addr} {xs : List D} {d : D} {cs : CS} {k : CS → Prop} (h : cs a = some (.lst xs)) : appW a d cs k = (xs.length < sizeLine ∧ k (cset cs a (.lst (xs ++ [d])))) := by simp only [appW, h]
/-- a law's pot: two numbers, drawn from -/
def Pot (cs : CS) (a : Addr) : Prop := ∃ x y : Nat, cs a = some (.lst [.int x, .int y]) ∧ y ≤ 2147483629
/-- nothing but the pot at a has changed -/
def Kept (a : Addr) (cs cs' : CS) : Prop := Pot cs' a ∧ ∀ b o, b ≠ a → cs b = some o → cs' b = some o
theorem Kept.refl {a : Addr} {cs : CS} (h : Pot cs a) : Kept a cs cs := ⟨h, fun _ _ _ e => e⟩
theorem Kept.trans {a : Addr} {cs cs1 cs2 : CS} (h : Kept a cs cs1) (h' : Kept a cs1 cs2) : Kept a cs cs2 := ⟨h'.1, fun b o hb e => h'.2 b o hb (h.2 b o hb e)⟩
theorem Kept.pot {a : Addr} {cs cs' : CS} (h : Kept a cs cs') : Pot cs' a := h.1
theorem Pot.is {cs : CS} {a b : Addr} (h : Pot cs a) (hb : cs b = none) : b ≠ a := fun e => by
  obtain ⟨x, y, h, _⟩ := h
  rw [e, h] at hb; cases hb

theorem Pot.cset {cs : CS} {a c : Addr} {o : Ob} (h : Pot cs a) (hc : c ≠ a) : Pot (cset cs c o) a := by
  obtain ⟨x, y, h, hy⟩ := h
  exact ⟨x, y, by rw [cset_ne (Ne.symm hc)]; exact h, hy⟩
theorem Pot.cdel {cs : CS} {a c : Addr} (h : Pot cs a) (hc : c ≠ a) : Pot (cdel cs c) a := by
  obtain ⟨x, y, h, hy⟩ := h
  exact ⟨x, y, by rw [cdel_ne (Ne.symm hc)]; exact h, hy⟩
theorem Kept.cset {cs cs' : CS} {a c : Addr} {o : Ob} (h : Kept a cs cs') (hc : c ≠ a) (hn : cs c = none) : Kept a cs (cset cs' c o) := ⟨h.1.cset hc, fun b o' hb e => by
  have : b ≠ c := fun z => by rw [z, hn] at e; cases e
  rw [cset_ne this]; exact h.2 b o' hb e⟩
theorem Kept.cdel {cs cs' : CS} {a c : Addr} (h : Kept a cs cs') (hc : c ≠ a) (hn : cs c = none) : Kept a cs (cdel cs' c) := ⟨h.1.cdel hc, fun b o' hb e => by
  have : b ≠ c := fun z => by rw [z, hn] at e; cases e
  rw [cdel_ne this]; exact h.2 b o' hb e⟩
/-- a thing that was nothing ahead was nothing still further ahead -/
theorem Kept.none {cs cs' : CS} {a c : Addr} (h : Kept a cs cs') (hn : cs' c = none) : c ≠ a ∧ cs c = none := by
  have hc := h.1.is hn
  refine ⟨hc, ?_⟩
  cases e : cs c with
  | none => rfl
  | some o => rw [h.2 c o hc e] at hn; cases hn
end Dw
set_option Elab.async false
set_option linter.all false
set_option maxRecDepth 100000
set_option maxHeartbeats 4000000
/-! Texts of letters; where a text is found first. -/
namespace Dw
open PySem PySem.StrLaws PySem.Builtin.Str
theorem occ_stays (s sub : Str) (hi : Nat) : ∀ (l : List Nat) (st : Array Nat × Nat), st.fst.size = 1 → (forIn l st (occBody s sub hi 1)).run.fst = st.fst
  | [], st, h => by simp
  | a :: l, st, h => by
    rw [List.forIn_cons]
    unfold occBody
    rw [if_neg (fun z => by have := z.1.1.1; omega)]
    exact occ_stays s sub hi l (st.fst, st.snd) h
theorem occ_least (s sub : Str) (hi : Nat) : ∀ (m lo free : Nat), free ≤ lo → (∃ i, lo ≤ i ∧ i < lo + m ∧ i + sub.length ≤ hi ∧ subAt s sub i = true) →
    ∃ k, lo ≤ k ∧ k < lo + m ∧ k + sub.length ≤ hi ∧ subAt s sub k = true ∧ (∀ j, lo ≤ j → j < k → ¬ (j + sub.length ≤ hi ∧ subAt s sub j = true)) ∧ (forIn (List.range' lo m) ((#[] : Array Nat), free) (occBody s sub hi 1)).run.fst = #[k]
  | 0, lo, free, hf, ⟨i, h1, h2, _⟩ => by omega
  | m + 1, lo, free, hf, h => by
    rw [List.range'_succ, List.forIn_cons]
    by_cases c : lo + sub.length ≤ hi ∧ subAt s sub lo = true
    · refine ⟨lo, Nat.le_refl _, by omega, c.1, c.2, fun j h1 h2 => by omega, ?_⟩
      unfold occBody
      rw [if_pos ⟨⟨⟨by simp, hf⟩, c.1⟩, c.2⟩]
      exact occ_stays s sub hi _ ((#[] : Array Nat).push lo, lo + sub.length) (by simp)
    · obtain ⟨i, h1, h2, h3, h4⟩ := h
      have hne : i ≠ lo := fun e => c (by rw [← e]; exact ⟨h3, h4⟩)
      obtain ⟨k, k1, k2, k3, k4, k5, k6⟩ := occ_least s sub hi m (lo + 1) free (by omega) ⟨i, by omega, by omega, h3, h4⟩
      refine ⟨k, by omega, by omega, k3, k4, fun j h1 h2 => ?_, ?_⟩
      · by_cases e : j = lo
        · rw [e]; exact c
        · exact k5 j (by omega) h2
      · unfold occBody
        rw [if_neg (fun z => c ⟨z.1.2, z.2⟩)]
        exact k6
theorem find_rot {l : List Nat} (hl : 0 < l.length) : ∃ k, 0 < k ∧ k ≤ l.length ∧ Wd.rotOk l k ∧ (∀ j, 0 < j → j < k → ¬ Wd.rotOk l j) ∧ Txt.find3 (mk (l ++ l)) (mk l) 1 = (k : Int) := by
  have sub : ∀ i, subAt (mk (l ++ l)) (mk l) i = true ↔ Wd.rotOk l i := fun i => by
    rw [subAt_eq, mk_length, mk_tl, mk_tl, beq_iff_eq]; rfl
  have hlen : (mk (l ++ l)).length = l.length + l.length := by rw [mk_length]; simp
  have full : Wd.rotOk l l.length := by unfold Wd.rotOk; simp
  obtain ⟨k, k1, k2, k3, k4, k5, k6⟩ := occ_least (mk (l ++ l)) (mk l) (l.length + l.length) (l.length + l.length) 1 1 (Nat.le_refl _) ⟨l.length, by omega, by omega, by rw [mk_length]; omega, (sub _).mpr full⟩
  rw [mk_length] at k3
  refine ⟨k, by omega, by omega, (sub k).mp k4, fun j h1 h2 hj => k5 j (by omega) h2 ⟨by rw [mk_length]; omega, (sub j).mpr hj⟩, ?_⟩
  unfold Txt.find3
  have e : occurrences (mk (l ++ l)) (mk l) (fromIndex (mk (l ++ l)).length 1) (mk (l ++ l)).length 1 = [k] := by
    have f1 : fromIndex (mk (l ++ l)).length 1 = 1 := by unfold fromIndex; rfl
    rw [f1, hlen, occ_eq, show l.length + l.length + 1 - 1 = l.length + l.length by omega, k6]
  rw [e]
/-! ### letters -/
def Tx (l : List Nat) : Prop := ∀ c ∈ l, 97 ≤ c ∧ c ≤ 122
theorem low_ok {c : Nat} (h : 97 ≤ c ∧ c ≤ 122) : Unicode.isAlpha c = true ∧ Unicode.isLower c = true ∧ (Unicode.isUpper c || Unicode.isTitle c) = false := by
  have all : ∀ k, k < 26 → Unicode.isAlpha (97 + k) = true ∧ Unicode.isLower (97 + k) = true ∧ (Unicode.isUpper (97 + k) || Unicode.isTitle (97 + k)) = false := by decide +kernel
  have := all (c - 97) (by omega)
  rwa [show 97 + (c - 97) = c by omega] at this
theorem tx_ascii {l : List Nat} (h : Tx l) : Txt.isascii (mk l) = true := by
  show (l.toArray.all fun x => decide (x < 128)) = true
  simp only [List.all_toArray, List.all_eq_true, decide_eq_true_eq]
  exact fun c hc => by have := h c hc; omega
theorem tx_alpha {l : List Nat} (h : Tx l) (hl : 0 < l.length) : Txt.isalpha (mk l) = true := by
  show (decide ((mk l).length > 0) && l.toArray.all Unicode.isAlpha) = true
  rw [mk_length, Bool.and_eq_true, decide_eq_true_eq]
  refine ⟨hl, ?_⟩
  simp only [List.all_toArray, List.all_eq_true]
  exact fun c hc => (low_ok (h c hc)).1
theorem tx_lower {l : List Nat} (h : Tx l) (hl : 0 < l.length) : Txt.islower (mk l) = true := by
  show (l.toArray.any Unicode.isLower && !l.toArray.any fun c => Unicode.isUpper c || Unicode.isTitle c) = true
  simp only [List.any_toArray]
  rw [Bool.and_eq_true, Bool.not_eq_true', List.any_eq_true, List.any_eq_false]
  constructor
  · cases l with
    | nil => simp at hl
    | cons c r => exact ⟨c, List.mem_cons_self, (low_ok (h c List.mem_cons_self)).2.1⟩
  · exact fun c hc z => by rw [(low_ok (h c hc)).2.2] at z; cases z
theorem Tx.app {a b : List Nat} (h : Tx a) (h' : Tx b) : Tx (a ++ b) := fun c hc => (List.mem_append.mp hc).elim (h c) (h' c)
theorem Tx.take {a : List Nat} (h : Tx a) (n : Nat) : Tx (a.take n) := fun c hc => h c (List.mem_of_mem_take hc)
theorem Tx.drop {a : List Nat} (h : Tx a) (n : Nat) : Tx (a.drop n) := fun c hc => h c (List.mem_of_mem_drop hc)
theorem Tx.nil : Tx [] := fun c hc => by cases hc
theorem Tx.rep {a : List Nat} (h : Tx a) (n : Nat) : Tx (Dw.rep a n) := fun c hc => by
  unfold Dw.rep at hc
  rw [List.mem_flatten] at hc
  obtain ⟨x, hx, hc⟩ := hc
  rw [(List.mem_replicate.mp hx).2] at hc
  exact h c hc
theorem rep_length {α : Type} (a : List α) (n : Nat) : (rep a n).length = n * a.length := by
  unfold rep
  induction n with
  | zero => simp
  | succ n ih => rw [List.replicate_succ, List.flatten_cons, List.length_append, ih, Nat.succ_mul, Nat.add_comm]
/-! ### cuts -/
theorem cut_to {l : List Nat} {k : Nat} : L2.cutS (mk l) none (some (k : Int)) = mk (l.take k) := by
  rw [cut_mk, HT.sIx_none, HT.sIx_nat]
  congr 1
  simp only [List.drop_zero, Nat.sub_zero]
  rcases Nat.le_total k l.length with h | h
  · rw [Nat.min_eq_left h]
  · rw [Nat.min_eq_right h, List.take_length, List.take_of_length_le h]
theorem cut_from {l : List Nat} {k : Nat} : L2.cutS (mk l) (some (k : Int)) none = mk (l.drop k) := by
  rw [cut_mk, HT.sIx_none, HT.sIx_nat]
  congr 1
  rcases Nat.le_total k l.length with h | h
  · rw [Nat.min_eq_left h, List.take_of_length_le (by simp)]
  · rw [Nat.min_eq_right h, List.drop_length, List.drop_of_length_le h]; simp

/-! ### single letters joined -/
theorem strsD_map (cs : List Nat) : strsD (cs.map fun c => D.str (mk [c])) = some (cs.map fun c => mk [c]) := by
  induction cs with
  | nil => rfl
  | cons c cs ih => simp only [List.map_cons, strsD, ih]; rfl
theorem joinL_one : ∀ cs : List Nat, TL.joinL [] (cs.map fun c => [c]) = cs
  | [] => rfl
  | [c] => rfl
  | c :: d :: r => by
    have := joinL_one (d :: r)
    simp only [List.map_cons, TL.joinL, List.nil_append] at this ⊢
    rw [this]; rfl
theorem glued_join (y : Str) (parts : List Str) : Txt.join y parts = Str.join y parts := glued_eq_join y parts
theorem join_ones (cs : List Nat) : Txt.join (mk []) (cs.map fun c => mk [c]) = mk cs := by
  have e : Str.join (mk []) (cs.map fun c => mk [c]) = mk cs := TL.ext_tl (by
    rw [TL.tl_join]
    have h1 : (cs.map fun c => mk [c]).map TL.tl = cs.map fun c => [c] := by rw [List.map_map]; rfl
    have h2 : TL.tl (mk []) = [] := rfl
    rw [h1, h2, joinL_one]; rfl)
  rw [glued_join]; exact e
theorem bm_join {cs : List Nat} (h : cs.length ≤ 16777216) : bmop .join (.str (mk [])) [.lst (cs.map fun c => D.str (mk [c]))] = some (.str (mk cs), false) := by
  show ((strsD _).bind fun ys => if decide ((ys.map Str.length).sum + ys.length * (mk []).length ≤ 16777216) then some (D.str (Txt.join (mk []) ys), false) else none) = _
  rw [strsD_map, Option.bind_some, join_ones]
  have e : ((cs.map fun c => mk [c]).map Str.length).sum = cs.length := by
    rw [List.map_map]
    have : (Str.length ∘ fun c => mk [c]) = fun _ : Nat => 1 := by funext c; rfl
    rw [this]
    clear h
    induction cs with
    | nil => rfl
    | cons c cs ih => simp only [List.map_cons, List.sum_cons, ih, List.length_cons]; omega
  rw [if_pos]
  rw [decide_eq_true_eq, e]
  have : (mk []).length = 0 := rfl
  rw [this]; omega
end Dw
set_option Elab.async false
set_option linter.all false
set_option maxRecDepth 100000
set_option maxHeartbeats 4000000
/-! texts of trees: that they are, how long at most -/
namespace Dw
open PySem PySem.Spec PyProof L2
def RLen (P : Pg) (k m : Nat) (d : D) : Prop := ∃ t, reprN P k d = some t ∧ t.length ≤ m
theorem rl_ss {P : Pg} {d : D} {t : Str} {m k : Nat} (h : reprS d = some t) (hm : t.length ≤ m) (hd : ∀ n, reprN P (n + 1) d = reprS d) : RLen P k m d := by
  cases k with
  | zero => exact ⟨t, h, hm⟩
  | succ n => exact ⟨t, by rw [hd]; exact h, hm⟩
theorem rl_str {P : Pg} {k : Nat} {l : List Nat} (h : ∀ c ∈ l, c < 16 ^ 8) : RLen P k (10 * l.length + 2) (.str (mk l)) :=
  rl_ss (t := reprText (mk l)) rfl (by have := PySem.StrLaws.reprText_len (mk l) h; rw [mk_length] at this; exact this) fun n => rfl
theorem rl_non {P : Pg} {k : Nat} : RLen P k 4 .non := rl_ss (t := "None") rfl (by decide +kernel) fun n => rfl
theorem rl_int {P : Pg} {k n : Nat} (h : n < 2 ^ 30) : RLen P k 31 (.int (n : Int)) := by
  have hl : ((n : Int)).natAbs.log2 < 30 := by
    rw [Int.natAbs_natCast]
    by_cases h0 : n = 0
    · subst h0; decide
    · exact (Nat.log2_lt h0).2 h
  refine rl_ss (t := Str.ofString (toString (n : Int))) (if_pos (Nat.lt_trans hl (by decide))) ?_ fun n => rfl
  have := int_text_length_le (a := (n : Int)) (k := 30) (by decide) hl
  rw [ofString_length]; exact this
theorem textFrom_le {m : Nat} : ∀ (ts : List Str) (k : Nat) (acc : Str), (∀ t ∈ ts, t.length ≤ m) → (textFrom k acc ts).length ≤ acc.length + (m + 2) * ts.length
  | [], k, acc, h => by show acc.length ≤ _; omega
  | t :: r, k, acc, h => by
    have ih := textFrom_le r (k + 1) (acc ++ (if k > 0 then ", " else "" : String) ++ t) fun u hu => h u (List.mem_cons_of_mem _ hu)
    have e : (acc ++ (if k > 0 then ", " else "" : String) ++ t).length = acc.length + (if k > 0 then 2 else 0) + t.length := by
      rw [strLen_append, strLen_append]
      split <;> rfl
    have h1 := h t (List.mem_cons_self ..)
    have e2 : (m + 2) * (t :: r).length = (m + 2) * r.length + (m + 2) := by rw [List.length_cons, Nat.mul_add, Nat.mul_one]
    show (textFrom (k + 1) _ r).length ≤ _
    rw [e] at ih; rw [e2]
    have : (if k > 0 then 2 else 0 : Nat) ≤ 2 := by split <;> omega
    omega
theorem rl_lst {P : Pg} {k m : Nat} {xs : List D} (h : ∀ x ∈ xs, RLen P k m x) : RLen P (k + 1) ((m + 2) * xs.length + 2) (.lst xs) := by
  have go : ∀ xs : List D, (∀ x ∈ xs, RLen P k m x) → ∃ ts : List Str, reprL (reprN P k) xs = some ts ∧ ts.length = xs.length ∧ ∀ t ∈ ts, t.length ≤ m := by
    intro xs
    induction xs with
    | nil => intro _; exact ⟨[], rfl, rfl, fun _ h => nomatch h⟩
    | cons x r ih =>
      intro h
      obtain ⟨t, ht, hm⟩ := h x (List.mem_cons_self ..)
      obtain ⟨ts, h1, h2, h3⟩ := ih fun y hy => h y (List.mem_cons_of_mem _ hy)
      refine ⟨t :: ts, by simp only [reprL, ht, h1]; rfl, by rw [List.length_cons, List.length_cons, h2], fun u hu => ?_⟩
      rcases List.mem_cons.mp hu with rfl | hu
      · exact hm
      · exact h3 u hu
  obtain ⟨ts, h1, h2, h3⟩ := go xs h
  refine ⟨listText ts, by simp only [reprN, h1]; rfl, ?_⟩
  have := textFrom_le ts 0 "[" h3
  rw [h2] at this
  show (textFrom 0 "[" ts ++ "]").length ≤ _
  rw [strLen_append]
  have e1 : (("[" : String) : Str).length = 1 := by decide +kernel
  have e2 : (("]" : String) : Str).length = 1 := by decide +kernel
  omega
theorem rl_mono {P : Pg} {k m m' : Nat} {d : D} (h : RLen P k m d) (hm : m ≤ m') : RLen P k m' d := by
  obtain ⟨t, h1, h2⟩ := h
  exact ⟨t, h1, Nat.le_trans h2 hm⟩
theorem rl_top {P : Pg} {m : Nat} {d : D} (h : RLen P 8 m d) (hm : m ≤ 16777216) : ∃ s, reprTop P d = some (.str s, false) := by
  obtain ⟨t, h1, h2⟩ := h
  refine ⟨t, ?_⟩
  unfold reprTop
  rw [h1]
  exact if_pos (okSz_iff.mpr (sizeL (Nat.le_trans h2 hm)))
end Dw
set_option Elab.async false
set_option linter.all false
set_option maxRecDepth 100000
set_option maxHeartbeats 4000000
/-! letters, rising, each once. -/
namespace Dw
open PySem PySem.Spec PyProof.Rows L2
theorem set_mk {m : List Nat} : setItems (.str (mk m)) = some (m.map fun c => mk [c]) := rfl
theorem mk1 {c d : Nat} : mk [c] = mk [d] ↔ c = d := by rw [mk_inj]; simp
theorem mem_mk {c : Nat} {m : List Nat} : mk [c] ∈ m.map (fun c => mk [c]) ↔ c ∈ m := by
  rw [List.mem_map]
  exact ⟨fun ⟨d, h, e⟩ => by rw [← mk1.mp e]; exact h, fun h => ⟨c, h, rfl⟩⟩
theorem rising_le : ∀ (cs : List Nat) (p : Nat), risingS (mk [p]) (cs.map fun c => mk [c]) = true → (p :: cs).Pairwise (· ≤ ·)
  | [], p, _ => List.pairwise_singleton _ _
  | c :: r, p, h => by
    have h : (!ltCps [c] [p] && risingS (mk [c]) (r.map fun c => mk [c])) = true := h
    simp only [Bool.and_eq_true, Bool.not_eq_true'] at h
    have ih := rising_le r c h.2
    have hpc : p ≤ c := by
      have h1 : (decide (c < p) || (c == p && ltCps [] [])) = false := h.1
      simp only [Bool.or_eq_false_iff, decide_eq_false_iff_not] at h1
      omega
    refine List.pairwise_cons.mpr ⟨fun x hx => ?_, ih⟩
    rcases List.mem_cons.mp hx with e | hx
    · rw [e]; exact hpc
    · exact Nat.le_trans hpc ((List.pairwise_cons.mp ih).1 x hx)
theorem ones_of : ∀ (ys : List Str), (∀ x ∈ ys, ∃ c, x = mk [c]) → ∃ cs : List Nat, ys = cs.map fun c => mk [c]
  | [], _ => ⟨[], rfl⟩
  | y :: r, h => by
    obtain ⟨c, rfl⟩ := h y List.mem_cons_self
    obtain ⟨cs, e⟩ := ones_of r fun x hx => h x (List.mem_cons_of_mem _ hx)
    exact ⟨c :: cs, by rw [e]; rfl⟩
theorem lets_of {ys : List Str} {m : List Nat} (h1 : sortedS ys = true) (h2 : ys.Nodup) (h3 : ∀ x, x ∈ ys ↔ x ∈ m.map fun c => mk [c]) : ∃ cs : List Nat, ys = cs.map (fun c => mk [c]) ∧ cs.Pairwise (· < ·) ∧ ∀ c, c ∈ cs ↔ c ∈ m := by
  obtain ⟨cs, rfl⟩ := ones_of ys fun x hx => by
    obtain ⟨c, _, e⟩ := List.mem_map.mp ((h3 x).mp hx)
    exact ⟨c, e.symm⟩
  refine ⟨cs, rfl, ?_, fun c => ?_⟩
  · have nd : cs.Nodup := by
      rw [List.nodup_iff_pairwise_ne] at h2 ⊢
      rw [List.pairwise_map] at h2
      exact h2.imp fun h e => h (by rw [e])
    have le : cs.Pairwise (· ≤ ·) := by
      cases cs with
      | nil => exact List.Pairwise.nil
      | cons c r => exact rising_le r c h1
    rw [List.nodup_iff_pairwise_ne] at nd
    exact (le.and nd).imp fun h => Nat.lt_of_le_of_ne h.1 h.2
  · rw [← mem_mk (m := cs), h3, mem_mk]
theorem rising_unique : ∀ {cs ds : List Nat}, cs.Pairwise (· < ·) → ds.Pairwise (· < ·) → (∀ c, c ∈ cs ↔ c ∈ ds) → cs = ds
  | [], [], _, _, _ => rfl
  | [], d :: _, _, _, h => by have := (h d).mpr List.mem_cons_self; cases this
  | c :: _, [], _, _, h => by have := (h c).mp List.mem_cons_self; cases this
  | c :: r, d :: t, h1, h2, h => by
    obtain ⟨a1, a2⟩ := List.pairwise_cons.mp h1
    obtain ⟨b1, b2⟩ := List.pairwise_cons.mp h2
    have e : c = d := by
      rcases List.mem_cons.mp ((h c).mp List.mem_cons_self) with e | e
      · exact e
      · rcases List.mem_cons.mp ((h d).mpr List.mem_cons_self) with e' | e'
        · exact e'.symm
        · have := b1 c e; have := a1 d e'; omega
    subst e
    rw [rising_unique a2 b2 fun x => ?_]
    constructor
    · intro hx
      rcases List.mem_cons.mp ((h x).mp (List.mem_cons_of_mem _ hx)) with e | e
      · have := a1 x hx; omega
      · exact e
    · intro hx
      rcases List.mem_cons.mp ((h x).mpr (List.mem_cons_of_mem _ hx)) with e | e
      · have := b1 x hx; omega
      · exact e
/-- the letters of a text, in one text -/
theorem lets_few {m : List Nat} (h : Tx m) : ∃ M : List Str, M.length < 64 ∧ ∀ x ∈ m.map (fun c => mk [c]), x ∈ M := by
  refine ⟨(List.range 26).map fun i => mk [97 + i], by simp, fun x hx => ?_⟩
  obtain ⟨c, hc, rfl⟩ := List.mem_map.mp hx
  have := h c hc
  exact List.mem_map.mpr ⟨c - 97, List.mem_range.mpr (by omega), by rw [show 97 + (c - 97) = c by omega]⟩
theorem rising_len : ∀ {ls : List Nat} {k : Nat}, ls.Pairwise (· < ·) → (∀ c ∈ ls, c < k) → ls.length ≤ k := by
  intro ls k h hk
  have go : ∀ (ls : List Nat) (lo : Nat), ls.Pairwise (· < ·) → (∀ c ∈ ls, lo ≤ c ∧ c < k) → ls.length ≤ k - lo := by
    intro ls
    induction ls with
    | nil => intro lo _ _; exact Nat.zero_le _
    | cons c r ih =>
      intro lo h hk
      obtain ⟨h1, h2⟩ := List.pairwise_cons.mp h
      have hc := hk c List.mem_cons_self
      have := ih (c + 1) h2 fun d hd => ⟨h1 d hd, (hk d (List.mem_cons_of_mem _ hd)).2⟩
      show r.length + 1 ≤ _
      omega
  have := go ls 0 h fun c hc => ⟨Nat.zero_le _, hk c hc⟩
  omega
theorem co_in {c : Nat} {m : List Nat} : cmpop .In (.str (mk [c])) (.str (mk m)) = some (decide (c ∈ m)) := by
  show some (!(Builtin.Str.occurrences (mk m) ⟨#[c]⟩ 0 (mk m).length 1).isEmpty) = _
  rw [PySem.StrLaws.found_one]; rfl
end Dw
set_option Elab.async false
set_option linter.all false
set_option maxRecDepth 100000
set_option maxHeartbeats 4000000
namespace K13
open PySem PySem.Spec PyProof.Rows L2 Dw
def topS (i : Nat) : Stmt := PySem.Challenge.rw_ringdepth_k13_whole_words_by_letters.prog.main.body.getD i (.Pass ⟨0, 0, 0, 0⟩)
def inS (i j : Nat) : Stmt := inClass (topS i) j
/-- 0: _wall -/
def b0 : Sms := (.cons (.while_ (.val (.bl true)) (.cons .pass .nil)) .nil)
def n0 : List Str := ["k"]
/-- 1: is_integer -/
def b1 : Sms := (.cons (.ret (.and (.bi (.isi "int") (.cons (.var 0) .nil)) (.one (.not (.bi (.isi "bool") (.cons (.var 0) .nil)))))) .nil)
def n1 : List Str := ["value"]
/-- 2: is_count -/
def b2 : Sms := (.cons (.ret (.and (.call 1 (.cons (.var 0) .nil)) (.one (.cmp .GtE (.var 0) (.int 0))))) .nil)
def n2 : List Str := ["value"]
/-- 3: is_text -/
def b3 : Sms := (.cons (.ifs (.not (.val (.bi (.isi "str") (.cons (.var 0) .nil)))) (.cons (.ret (.bl false)) .nil) .nil) (.cons (.ret (.or (.cmp .Eq (.var 0) (.str "")) (.one (.and (.bm .isascii (.var 0) .nil) (.and (.bm .isalpha (.var 0) .nil) (.one (.bm .islower (.var 0) .nil))))))) .nil))
def n3 : List Str := ["value"]
/-- 4: check_number -/
def b4 : Sms := (.cons (.ifs (.not (.val (.call 2 (.cons (.var 0) .nil)))) (.cons .never .nil) .nil) .nil)
def n4 : List Str := ["value"]
/-- 5: Word.__init__ -/
def b5 : Sms := (.cons (.ifs (.not (.val (.call 3 (.cons (.var 1) .nil)))) (.cons .never .nil) .nil) (.cons (.ifs (.or (.not (.val (.call 3 (.cons (.var 2) .nil)))) (.one (.val (.cmp .Eq (.var 2) (.str ""))))) (.cons .never .nil) .nil) (.cons (.ifs (.or (.val (.cmp .Gt (.bi .len (.cons (.var 1) .nil)) (.ccon 0 "MOST_LETTERS"))) (.one (.val (.cmp .Gt (.bi .len (.cons (.var 2) .nil)) (.ccon 0 "MOST_LETTERS"))))) (.cons .never .nil) .nil) (.cons (.asg (.tup (.cons (.fld (.var 0) "_begin") (.cons (.fld (.var 0) "_lap") .nil))) (.call 20 (.cons (.var 1) (.cons (.var 2) .nil)))) .nil))))
def n5 : List Str := ["self", "begin", "lap"]
/-- 6: Word.begin -/
def b6 : Sms := (.cons (.ret (.fld (.var 0) "_begin")) .nil)
def n6 : List Str := ["self"]
/-- 7: Word.lap -/
def b7 : Sms := (.cons (.ret (.fld (.var 0) "_lap")) .nil)
def n7 : List Str := ["self"]
/-- 8: Word.__getitem__ -/
def b8 : Sms := (.cons (.expr (.call 4 (.cons (.var 1) .nil))) (.cons (.ifs (.val (.cmp .Lt (.var 1) (.bi .len (.cons (.fld (.var 0) "_begin") .nil)))) (.cons (.ret (.sub (.fld (.var 0) "_begin") (.var 1))) .nil) .nil) (.cons (.ret (.sub (.fld (.var 0) "_lap") (.bin .Mod (.bi .int (.cons (.bin .Sub (.var 1) (.bi .len (.cons (.fld (.var 0) "_begin") .nil))) .nil)) (.bi .len (.cons (.fld (.var 0) "_lap") .nil))))) .nil)))
def n8 : List Str := ["self", "at"]
/-- 9: Word.__iter__ -/
def b9 : Sms := (.cons .never .nil)
def n9 : List Str := ["self"]
/-- 10: Word.__contains__ -/
def b10 : Sms := (.cons (.ret (.and (.bi (.isi "str") (.cons (.var 1) .nil)) (.and (.cmp .Eq (.bi .len (.cons (.var 1) .nil)) (.int 1)) (.one (.cmp .In (.var 1) (.bin .Add (.fld (.var 0) "_begin") (.fld (.var 0) "_lap"))))))) .nil)
def n10 : List Str := ["self", "value"]
/-- 11: Word.__radd__ -/
def b11 : Sms := (.cons (.ifs (.not (.val (.call 3 (.cons (.var 1) .nil)))) (.cons .never .nil) .nil) (.cons (.ret (.make 0 5 (.cons (.bin .Add (.var 1) (.fld (.var 0) "_begin")) (.cons (.fld (.var 0) "_lap") .nil)))) .nil))
def n11 : List Str := ["self", "other"]
/-- 12: Word.__eq__ -/
def b12 : Sms := (.cons (.ret (.and (.bi (.isc 0) (.cons (.var 1) .nil)) (.and (.cmp .Eq (.fld (.var 0) "_begin") (.fld (.var 1) "_begin")) (.one (.cmp .Eq (.fld (.var 0) "_lap") (.fld (.var 1) "_lap")))))) .nil)
def n12 : List Str := ["self", "other"]
/-- 13: Word.__repr__ -/
def b13 : Sms := (.cons (.ret (.fs (.cons (.str "Word(") (.cons (.bi .repr (.cons (.fld (.var 0) "_begin") .nil)) (.cons (.str ", ") (.cons (.bi .repr (.cons (.fld (.var 0) "_lap") .nil)) (.cons (.str ")") .nil))))))) .nil)
def n13 : List Str := ["self"]
/-- 14: Word.first -/
def b14 : Sms := (.cons (.expr (.call 4 (.cons (.var 1) .nil))) (.cons (.ifs (.val (.cmp .Gt (.var 1) (.ccon 0 "MOST_LETTERS"))) (.cons .never .nil) .nil) (.cons (.ret (.mcall "_told" (.var 0) (.cons (.var 1) .nil))) .nil)))
def n14 : List Str := ["self", "number"]
/-- 15: Word.behind -/
def b15 : Sms := (.cons (.expr (.call 4 (.cons (.var 1) .nil))) (.cons (.ifs (.val (.cmp .Lt (.var 1) (.bi .len (.cons (.fld (.var 0) "_begin") .nil)))) (.cons (.ret (.make 0 5 (.cons (.slc (.fld (.var 0) "_begin") (.some (.var 1)) .none) (.cons (.fld (.var 0) "_lap") .nil)))) .nil) .nil) (.cons (.asg (.nm 2) (.bin .Mod (.bi .int (.cons (.bin .Sub (.var 1) (.bi .len (.cons (.fld (.var 0) "_begin") .nil))) .nil)) (.bi .len (.cons (.fld (.var 0) "_lap") .nil)))) (.cons (.ret (.make 0 5 (.cons (.str "") (.cons (.bin .Add (.slc (.fld (.var 0) "_lap") (.some (.var 2)) .none) (.slc (.fld (.var 0) "_lap") .none (.some (.var 2)))) .nil)))) .nil))))
def n15 : List Str := ["self", "number", "turn"]
/-- 16: Word.coming -/
def b16 : Sms := (.cons (.ret (.bm .join (.str "") (.cons (.sset (.bin .Add (.fld (.var 0) "_begin") (.fld (.var 0) "_lap"))) .nil))) .nil)
def n16 : List Str := ["self"]
/-- 17: Word.again -/
def b17 : Sms := (.cons (.ret (.bm .join (.str "") (.cons (.sset (.fld (.var 0) "_lap")) .nil))) .nil)
def n17 : List Str := ["self"]
/-- 18: Word.common -/
def b18 : Sms := (.cons (.expr (.call 0 (.cons (.int 0) .nil))) .nil)
def n18 : List Str := ["self", "other"]
/-- 19: Word._told -/
def b19 : Sms := (.cons (.asg (.nm 2) (.bin .Add (.bin .FloorDiv (.var 1) (.bi .len (.cons (.fld (.var 0) "_lap") .nil))) (.int 1))) (.cons (.ret (.slc (.bin .Add (.fld (.var 0) "_begin") (.bin .Mult (.fld (.var 0) "_lap") (.var 2))) .none (.some (.var 1)))) .nil))
def n19 : List Str := ["self", "number", "laps"]
/-- 20: _plain -/
def b20 : Sms := (.cons (.asg (.nm 2) (.slc (.var 1) .none (.some (.bm .find (.bin .Add (.var 1) (.var 1)) (.cons (.var 1) (.cons (.int 1) .nil)))))) (.cons (.asg (.nm 3) (.int 0)) (.cons (.while_ (.and (.val (.cmp .Lt (.var 3) (.bi .len (.cons (.var 0) .nil)))) (.one (.val (.cmp .Eq (.sub (.var 0) (.bin .Sub (.neg (.int 1)) (.var 3))) (.sub (.var 2) (.bin .Sub (.neg (.int 1)) (.bin .Mod (.bi .int (.cons (.var 3) .nil)) (.bi .len (.cons (.var 2) .nil))))))))) (.cons (.asg (.nm 3) (.bin .Add (.var 3) (.int 1))) .nil)) (.cons (.asg (.nm 4) (.bin .Sub (.bi .len (.cons (.var 2) .nil)) (.bin .Mod (.bi .int (.cons (.var 3) .nil)) (.bi .len (.cons (.var 2) .nil))))) (.cons (.ret (.tup (.cons (.slc (.var 0) .none (.some (.bin .Sub (.bi .len (.cons (.var 0) .nil)) (.var 3)))) (.cons (.bin .Add (.slc (.var 2) (.some (.var 4)) .none) (.slc (.var 2) .none (.some (.var 4)))) .nil)))) .nil)))))
def n20 : List Str := ["begin", "lap", "short", "spare", "turn"]
/-- 21: _law_pot -/
def b21 : Sms := (.cons (.asg (.nm 2) (.bin .Add (.bin .Mult (.int 163) (.var 1)) (.int 137))) (.cons (.ifs (.val (.cmp .Lt (.var 1) (.bi .len (.cons (.var 0) .nil)))) (.cons (.asg (.nm 2) (.bi .abs (.cons (.sub (.var 0) (.var 1)) .nil))) .nil) .nil) (.cons (.ret (.lst (.cons (.bi .max (.cons (.int 0) (.cons (.bin .Sub (.var 2) (.bin .Pow (.int 10) (.int 18))) .nil))) (.cons (.bin .Add (.bin .Mod (.bi .int (.cons (.bin .Add (.bin .Add (.bin .Mult (.bin .Mod (.bi .int (.cons (.var 2) .nil)) (.int 2147483587)) (.int 48271)) (.bin .Mult (.int 8161) (.var 1))) (.int 191)) .nil)) (.int 2147483629)) (.int 1)) .nil)))) .nil)))
def n21 : List Str := ["_law_script", "_law_k", "_law_start_here"]
/-- 22: _law_draw -/
def b22 : Sms := (.cons (.ifs (.val (.cmp .Gt (.sub (.var 0) (.int 0)) (.int 0))) (.cons (.asg (.tup (.cons (.sub (.var 0) (.int 0)) (.cons (.nm 2) .nil))) (.bi .divmod (.cons (.sub (.var 0) (.int 0)) (.cons (.var 1) .nil)))) (.cons (.ret (.var 2)) .nil)) .nil) (.cons (.asg (.sub (.var 0) (.int 1)) (.bin .Mod (.bi .int (.cons (.bin .Add (.bin .Mult (.sub (.var 0) (.int 1)) (.int 48271)) (.int 11251)) .nil)) (.int 2147483629))) (.cons (.ret (.bin .Mod (.bi .int (.cons (.bin .FloorDiv (.bin .Mod (.bi .int (.cons (.bin .Mult (.sub (.var 0) (.int 1)) (.sub (.var 0) (.int 1))) .nil)) (.int 2147483549)) (.int 13)) .nil)) (.var 1))) .nil)))
def n22 : List Str := ["_law_pot_here", "_law_many", "_law_digit"]
/-- 23: _law_pick -/
def b23 : Sms := (.cons (.ret (.sub (.var 1) (.call 22 (.cons (.var 0) (.cons (.bi .len (.cons (.var 1) .nil)) .nil))))) .nil)
def n23 : List Str := ["_law_pot_here", "_law_some"]
/-- 24: _law_text -/
def b24 : Sms := (.cons (.ret (.bm .join (.str "") (.cons (.lc [("_law_turn", 3)] (.nm 3) (.rng1 (.call 22 (.cons (.var 0) (.cons (.bin .Add (.var 2) (.int 1)) .nil)))) .none (.call 23 (.cons (.var 0) (.cons (.var 1) .nil)))) .nil))) .nil)
def n24 : List Str := ["_law_pot_here", "_law_signs", "_law_most", "_law_turn"]
/-- 25: _law_sign -/
def b25 : Sms := (.cons (.ifs (.val (.cmp .Lt (.var 2) (.bi .len (.cons (.var 0) .nil)))) (.cons (.ret (.sub (.var 0) (.var 2))) .nil) .nil) (.cons (.ret (.sub (.var 1) (.bin .Mod (.bi .int (.cons (.bin .Sub (.var 2) (.bi .len (.cons (.var 0) .nil))) .nil)) (.bi .len (.cons (.var 1) .nil))))) .nil))
def n25 : List Str := ["_law_begin", "_law_lap", "_law_place"]
/-- 26: _law_start -/
def b26 : Sms := (.cons (.ret (.bm .join (.str "") (.cons (.lc [("_law_place", 3)] (.nm 3) (.rng1 (.var 2)) .none (.call 25 (.cons (.var 0) (.cons (.var 1) (.cons (.var 3) .nil))))) .nil))) .nil)
def n26 : List Str := ["_law_begin", "_law_lap", "_law_size", "_law_place"]
/-- 27: _law_is -/
def b27 : Sms := (.cons (.asg (.nm 3) (.bin .Add (.bin .Add (.bin .Add (.bi .len (.cons (.fld (.var 0) "begin") .nil)) (.bi .len (.cons (.fld (.var 0) "lap") .nil))) (.bi .len (.cons (.var 1) .nil))) (.bi .len (.cons (.var 2) .nil)))) (.cons (.ret (.and (.cmp .Eq (.mcall "first" (.var 0) (.cons (.var 3) .nil)) (.call 26 (.cons (.var 1) (.cons (.var 2) (.cons (.var 3) .nil))))) (.one (.cmp .Eq (.mcall "first" (.var 0) (.cons (.bin .Add (.var 3) (.int 9)) .nil)) (.call 26 (.cons (.var 1) (.cons (.var 2) (.cons (.bin .Add (.var 3) (.int 9)) .nil)))))))) .nil))
def n27 : List Str := ["_law_word", "_law_begin", "_law_lap", "_law_far"]
/-- 28: _law_rest -/
def b28 : Sms := (.cons (.ifs (.val (.cmp .LtE (.var 2) (.bi .len (.cons (.var 0) .nil)))) (.cons (.ret (.tup (.cons (.slc (.var 0) (.some (.var 2)) .none) (.cons (.var 1) .nil)))) .nil) .nil) (.cons (.asg (.nm 3) (.bin .Mod (.bi .int (.cons (.bin .Sub (.var 2) (.bi .len (.cons (.var 0) .nil))) .nil)) (.bi .len (.cons (.var 1) .nil)))) (.cons (.ret (.tup (.cons (.str "") (.cons (.bin .Add (.slc (.var 1) (.some (.var 3)) .none) (.slc (.var 1) .none (.some (.var 3)))) .nil)))) .nil)))
def n28 : List Str := ["_law_begin", "_law_lap", "_law_number", "_law_cut"]
/-- 29: _law_numbers -/
def b29 : Sms := (.cons (.asgN 1 (.bin .Add (.lrg (.int 12)) (.lst (.cons (.bin .Pow (.int 10) (.int 29)) (.cons (.bin .Add (.bin .Pow (.int 10) (.int 29)) (.int 1)) (.cons (.int 999) (.cons (.int 123456789) .nil))))))) (.cons (.for_ (.nm 2) (.rng1 (.int 6)) (.cons (.app 1 (.call 22 (.cons (.var 0) (.cons (.int 40) .nil)))) (.cons (.app 1 (.bin .Add (.bin .Mult (.bin .Pow (.int 10) (.int 20)) (.call 22 (.cons (.var 0) (.cons (.int 1000) .nil)))) (.call 22 (.cons (.var 0) (.cons (.bin .Pow (.int 10) (.int 6)) .nil))))) .nil))) (.cons (.ret (.own 1)) .nil)))
def n29 : List Str := ["_law_pot_here", "_law_found", "_law_turn"]
/-- 30: _law_places_right -/
def b30 : Sms := (.cons (.for_ (.nm 4) (.it (.var 3)) (.cons (.ifs (.val (.cmp .NotEq (.sub (.var 0) (.var 4)) (.call 25 (.cons (.var 1) (.cons (.var 2) (.cons (.var 4) .nil)))))) (.cons (.ret (.bl false)) .nil) .nil) (.cons (.asg (.nm 5) (.call 28 (.cons (.var 1) (.cons (.var 2) (.cons (.var 4) .nil))))) (.cons (.asg (.nm 6) (.mcall "behind" (.var 0) (.cons (.var 4) .nil))) (.cons (.ifs (.or (.not (.val (.call 27 (.cons (.var 6) (.cons (.sub (.var 5) (.int 0)) (.cons (.sub (.var 5) (.int 1)) .nil)))))) (.or (.val (.cmp .NotEq (.var 6) (.mcallk "behind" (.var 0) .nil ["number"] (.cons (.var 4) .nil) [0, 1]))) (.one (.val (.cmp .NotEq (.sub (.var 6) (.int 0)) (.sub (.var 0) (.var 4))))))) (.cons (.ret (.bl false)) .nil) .nil) (.cons (.ifs (.val (.cmp .Lt (.var 4) (.int 60))) (.cons (.asg (.nm 7) (.mcall "first" (.var 0) (.cons (.var 4) .nil))) (.cons (.ifs (.or (.val (.cmp .NotEq (.var 7) (.call 26 (.cons (.var 1) (.cons (.var 2) (.cons (.var 4) .nil)))))) (.one (.val (.cmp .NotEq (.mcallk "first" (.var 0) .nil ["number"] (.cons (.var 4) .nil) [0, 1]) (.var 7))))) (.cons (.ret (.bl false)) .nil) .nil) (.cons (.ifs (.or (.val (.cmp .NotEq (.bin .Add (.var 7) (.var 6)) (.var 0))) (.one (.val (.cmp .NotEq (.var 6) (.make 0 5 (.cons (.sub (.var 5) (.int 0)) (.cons (.sub (.var 5) (.int 1)) .nil))))))) (.cons (.ret (.bl false)) .nil) .nil) .nil))) .nil) .nil)))))) (.cons (.ret (.bl true)) .nil))
def n30 : List Str := ["_law_word", "_law_begin", "_law_lap", "_law_numbers_here", "_law_number", "_law_rest_here", "_law_told", "_law_start_here"]
/-- 31: _law_ahead_right -/
def b31 : Sms := (.cons (.for_ (.nm 4) (.rng1 (.int 4)) (.cons (.asg (.nm 5) (.call 24 (.cons (.var 0) (.cons (.str "abc") (.cons (.int 8) .nil))))) (.cons (.asg (.nm 6) (.bin .Add (.var 5) (.var 1))) (.cons (.ifs (.or (.not (.val (.call 27 (.cons (.var 6) (.cons (.bin .Add (.var 5) (.var 2)) (.cons (.var 3) .nil)))))) (.or (.val (.cmp .NotEq (.mcall "behind" (.var 6) (.cons (.bi .len (.cons (.var 5) .nil)) .nil)) (.var 1))) (.one (.val (.cmp .NotEq (.var 6) (.make 0 5 (.cons (.bin .Add (.var 5) (.var 2)) (.cons (.var 3) .nil)))))))) (.cons (.ret (.bl false)) .nil) .nil) (.cons (.ifs (.or (.val (.cmp .NotEq (.mcall "first" (.var 6) (.cons (.bi .len (.cons (.var 5) .nil)) .nil)) (.var 5))) (.one (.not (.val (.call 27 (.cons (.var 1) (.cons (.var 2) (.cons (.var 3) .nil)))))))) (.cons (.ret (.bl false)) .nil) .nil) .nil))))) (.cons (.ret (.and (.cmp .Eq (.bin .Add (.str "") (.var 1)) (.var 1)) (.and (.cmp .Eq (.mcall "first" (.var 1) (.cons (.int 0) .nil)) (.str "")) (.one (.cmp .Eq (.mcall "behind" (.var 1) (.cons (.int 0) .nil)) (.var 1)))))) .nil))
def n31 : List Str := ["_law_pot_here", "_law_word", "_law_begin", "_law_lap", "_law_turn", "_law_text_here", "_law_more"]
/-- 32: _law_rising -/
def b32 : Sms := (.cons (.ret (.bm .join (.str "") (.cons (.sset (.bi .list (.cons (.var 0) .nil))) .nil))) .nil)
def n32 : List Str := ["_law_text_here"]
/-- 33: _law_letters_right -/
def b33 : Sms := (.cons (.for_ (.nm 3) (.rng1 (.int 2)) (.cons (.ifs (.val (.cmp .NotEq (.bi .repr (.cons (.lst (.cons (.mcall "coming" (.var 0) .nil) (.cons (.mcall "again" (.var 0) .nil) .nil))) .nil)) (.bi .repr (.cons (.lst (.cons (.call 32 (.cons (.bin .Add (.var 1) (.var 2)) .nil)) (.cons (.call 32 (.cons (.var 2) .nil)) .nil))) .nil)))) (.cons (.ret (.bl false)) .nil) .nil) .nil)) (.cons (.asg (.nm 4) (.lc [("_law_sign_here", 6)] (.nm 6) (.it (.str "abcdz")) .none (.cmp .In (.var 6) (.var 0)))) (.cons (.ifs (.val (.cmp .NotEq (.bi .repr (.cons (.var 4) .nil)) (.bi .repr (.cons (.lc [("_law_sign_here", 6)] (.nm 6) (.it (.str "abcdz")) .none (.cmp .In (.var 6) (.bin .Add (.var 1) (.var 2)))) .nil)))) (.cons (.ret (.bl false)) .nil) .nil) (.cons (.asg (.nm 5) (.lst (.cons (.str "") (.cons (.str "ab") (.cons (.str "aa") (.cons (.bin .Add (.bin .Add (.var 1) (.var 2)) (.str "a")) (.cons .non (.cons (.int 0) (.cons (.bl true) (.cons (.lst (.cons (.str "a") .nil)) (.cons (.tup (.cons (.str "a") .nil)) (.cons .dic0 (.cons (.lst .nil) (.cons (.dic1 "a" 1) (.cons (.str "A") (.cons (.str " ") .nil)))))))))))))))) (.cons (.ret (.not (.bi .any (.cons (.lc [("_law_thing", 7)] (.nm 7) (.it (.var 5)) .none (.cmp .In (.var 7) (.var 0))) .nil)))) .nil)))))
def n33 : List Str := ["_law_word", "_law_begin", "_law_lap", "_law_turn", "_law_told", "_law_odd", "_law_sign_here", "_law_thing"]
/-- 34: _law_right -/
def b34 : Sms := (.cons (.asg (.nm 1) (.slc (.slc (.str "abc") (.some (.call 22 (.cons (.var 0) (.cons (.int 2) .nil)))) .none) .none (.some (.bin .Add (.int 1) (.call 22 (.cons (.var 0) (.cons (.int 3) .nil))))))) (.cons (.par 4 5 (.call 24 (.cons (.var 0) (.cons (.var 1) (.cons (.int 9) .nil)))) (.bin .Add (.call 24 (.cons (.var 0) (.cons (.var 1) (.cons (.int 6) .nil)))) (.call 23 (.cons (.var 0) (.cons (.var 1) .nil))))) (.cons (.ifs (.val (.cmp .Eq (.call 22 (.cons (.var 0) (.cons (.int 4) .nil))) (.int 0))) (.cons (.asg (.nm 4) (.bin .Add (.var 4) (.str "d"))) (.cons (.asg (.nm 5) (.bin .Mult (.call 23 (.cons (.var 0) (.cons (.lc [("_law_sign_here", 6)] (.nm 6) (.it (.var 1)) .none (.var 6)) .nil))) (.bin .Add (.int 1) (.call 22 (.cons (.var 0) (.cons (.int 3) .nil)))))) (.cons (.asg (.nm 1) (.bin .Add (.str "d") (.slc (.var 5) .none (.some (.int 1))))) (.cons (.asg (.nm 4) (.bm .join (.str "") (.cons (.lc [("_law_sign_here", 6)] (.nm 6) (.it (.var 4)) (.some (.val (.cmp .In (.var 6) (.var 1)))) (.var 6)) .nil))) .nil)))) .nil) (.cons (.asg (.nm 2) (.make 0 5 (.cons (.var 4) (.cons (.var 5) .nil)))) (.cons (.asg (.nm 3) (.bi .repr (.cons (.var 2) .nil))) (.cons (.ifs (.or (.not (.val (.call 27 (.cons (.var 2) (.cons (.var 4) (.cons (.var 5) .nil)))))) (.one (.not (.val (.call 30 (.cons (.var 2) (.cons (.var 4) (.cons (.var 5) (.cons (.call 29 (.cons (.var 0) .nil)) .nil))))))))) (.cons (.ret (.bl false)) .nil) .nil) (.cons (.ifs (.or (.not (.val (.call 31 (.cons (.var 0) (.cons (.var 2) (.cons (.var 4) (.cons (.var 5) .nil))))))) (.one (.not (.val (.call 33 (.cons (.var 2) (.cons (.var 4) (.cons (.var 5) .nil)))))))) (.cons (.ret (.bl false)) .nil) .nil) (.cons (.ret (.and (.cmp .Eq (.bi .repr (.cons (.var 2) .nil)) (.var 3)) (.one (.call 27 (.cons (.var 2) (.cons (.var 4) (.cons (.var 5) .nil))))))) .nil))))))))
def n34 : List Str := ["_law_pot_here", "_law_signs", "_law_word", "_law_shown", "_law_begin", "_law_lap", "_law_sign_here"]
/-- 35: law -/
def b35 : Sms := (.cons (.ret (.bi .all (.cons (.lc [("_law_k", 1)] (.nm 1) (.rng1 (.bi .max (.cons (.int 1) (.cons (.bi .min (.cons (.int 4) (.cons (.bi .len (.cons (.var 0) .nil)) .nil))) .nil)))) .none (.call 34 (.cons (.new (.call 21 (.cons (.var 0) (.cons (.var 1) .nil)))) .nil))) .nil))) .nil)
def n35 : List Str := ["_law_script", "_law_k"]
def bodies : List (Sms × Nat) := [(b0, n0.length), (b1, n1.length), (b2, n2.length), (b3, n3.length), (b4, n4.length), (b5, n5.length), (b6, n6.length), (b7, n7.length), (b8, n8.length), (b9, n9.length), (b10, n10.length), (b11, n11.length), (b12, n12.length), (b13, n13.length), (b14, n14.length), (b15, n15.length), (b16, n16.length), (b17, n17.length), (b18, n18.length), (b19, n19.length), (b20, n20.length), (b21, n21.length), (b22, n22.length), (b23, n23.length), (b24, n24.length), (b25, n25.length), (b26, n26.length), (b27, n27.length), (b28, n28.length), (b29, n29.length), (b30, n30.length), (b31, n31.length), (b32, n32.length), (b33, n33.length), (b34, n34.length), (b35, n35.length)]
def pg : Pg := Pg.mk [⟨["k"], []⟩, ⟨["value"], []⟩, ⟨["value"], []⟩, ⟨["value"], []⟩, ⟨["value"], []⟩, ⟨["self", "begin", "lap"], []⟩, ⟨["self"], []⟩, ⟨["self"], []⟩, ⟨["self", "at"], []⟩, ⟨["self"], []⟩, ⟨["self", "value"], []⟩, ⟨["self", "other"], []⟩, ⟨["self", "other"], []⟩, ⟨["self"], []⟩, ⟨["self", "number"], [(1, ["number"], [0, 1])]⟩, ⟨["self", "number"], [(1, ["number"], [0, 1])]⟩, ⟨["self"], []⟩, ⟨["self"], []⟩, ⟨["self", "other"], []⟩, ⟨["self", "number"], []⟩, ⟨["begin", "lap"], []⟩, ⟨["_law_script", "_law_k"], []⟩, ⟨["_law_pot_here", "_law_many"], []⟩, ⟨["_law_pot_here", "_law_some"], []⟩, ⟨["_law_pot_here", "_law_signs", "_law_most"], []⟩, ⟨["_law_begin", "_law_lap", "_law_place"], []⟩, ⟨["_law_begin", "_law_lap", "_law_size"], []⟩, ⟨["_law_word", "_law_begin", "_law_lap"], []⟩, ⟨["_law_begin", "_law_lap", "_law_number"], []⟩, ⟨["_law_pot_here"], []⟩, ⟨["_law_word", "_law_begin", "_law_lap", "_law_numbers_here"], []⟩, ⟨["_law_pot_here", "_law_word", "_law_begin", "_law_lap"], []⟩, ⟨["_law_text_here"], []⟩, ⟨["_law_word", "_law_begin", "_law_lap"], []⟩, ⟨["_law_pot_here"], []⟩, ⟨["_law_script"], []⟩] [⟨"Word", ["_begin", "_lap"], [("__init__", 5), ("__getitem__", 8), ("__iter__", 9), ("__contains__", 10), ("__radd__", 11), ("__eq__", 12), ("__repr__", 13), ("first", 14), ("behind", 15), ("coming", 16), ("again", 17), ("common", 18), ("_told", 19)], [("begin", 6), ("lap", 7)], [("MOST_LETTERS", .int 8000)], [], some 5, [.lit "Word(", .fld "_begin", .lit ", ", .fld "_lap", .lit ")"]⟩] [("_wall", .fn 0), ("is_integer", .fn 1), ("is_count", .fn 2), ("is_text", .fn 3), ("check_number", .fn 4), ("Word", .cls 0), ("_plain", .fn 20), ("_law_pot", .fn 21), ("_law_draw", .fn 22), ("_law_pick", .fn 23), ("_law_text", .fn 24), ("_law_sign", .fn 25), ("_law_start", .fn 26), ("_law_is", .fn 27), ("_law_rest", .fn 28), ("_law_numbers", .fn 29), ("_law_places_right", .fn 30), ("_law_ahead_right", .fn 31), ("_law_rising", .fn 32), ("_law_letters_right", .fn 33), ("_law_right", .fn 34), ("law", .fn 35)] ["abs", "all", "any", "bool", "dict", "divmod", "int", "isinstance", "len", "list", "max", "min", "range", "repr", "set", "sorted", "str", "sum", "tuple"]
def d0 : DfD := ⟨.glo "_wall", "_wall", "_wall", defArgs (topS 0), defBody (topS 0), defScope (topS 0)⟩
def d1 : DfD := ⟨.glo "is_integer", "is_integer", "is_integer", defArgs (topS 2), defBody (topS 2), defScope (topS 2)⟩
def d2 : DfD := ⟨.glo "is_count", "is_count", "is_count", defArgs (topS 3), defBody (topS 3), defScope (topS 3)⟩
def d3 : DfD := ⟨.glo "is_text", "is_text", "is_text", defArgs (topS 4), defBody (topS 4), defScope (topS 4)⟩
def d4 : DfD := ⟨.glo "check_number", "check_number", "check_number", defArgs (topS 12), defBody (topS 12), defScope (topS 12)⟩
def d5 : DfD := ⟨.meth "Word" "__init__", "__init__", "Word.__init__", defArgs (inS 14 1), defBody (inS 14 1), defScope (inS 14 1)⟩
def d6 : DfD := ⟨.prop "Word" "begin", "begin", "Word.begin", defArgs (inS 14 3), defBody (inS 14 3), defScope (inS 14 3)⟩
def d7 : DfD := ⟨.prop "Word" "lap", "lap", "Word.lap", defArgs (inS 14 4), defBody (inS 14 4), defScope (inS 14 4)⟩
def d8 : DfD := ⟨.meth "Word" "__getitem__", "__getitem__", "Word.__getitem__", defArgs (inS 14 5), defBody (inS 14 5), defScope (inS 14 5)⟩
def d9 : DfD := ⟨.meth "Word" "__iter__", "__iter__", "Word.__iter__", defArgs (inS 14 6), defBody (inS 14 6), defScope (inS 14 6)⟩
def d10 : DfD := ⟨.meth "Word" "__contains__", "__contains__", "Word.__contains__", defArgs (inS 14 7), defBody (inS 14 7), defScope (inS 14 7)⟩
def d11 : DfD := ⟨.meth "Word" "__radd__", "__radd__", "Word.__radd__", defArgs (inS 14 8), defBody (inS 14 8), defScope (inS 14 8)⟩
def d12 : DfD := ⟨.meth "Word" "__eq__", "__eq__", "Word.__eq__", defArgs (inS 14 9), defBody (inS 14 9), defScope (inS 14 9)⟩
def d13 : DfD := ⟨.meth "Word" "__repr__", "__repr__", "Word.__repr__", defArgs (inS 14 10), defBody (inS 14 10), defScope (inS 14 10)⟩
def d14 : DfD := ⟨.meth "Word" "first", "first", "Word.first", defArgs (inS 14 11), defBody (inS 14 11), defScope (inS 14 11)⟩
def d15 : DfD := ⟨.meth "Word" "behind", "behind", "Word.behind", defArgs (inS 14 12), defBody (inS 14 12), defScope (inS 14 12)⟩
def d16 : DfD := ⟨.meth "Word" "coming", "coming", "Word.coming", defArgs (inS 14 13), defBody (inS 14 13), defScope (inS 14 13)⟩
def d17 : DfD := ⟨.meth "Word" "again", "again", "Word.again", defArgs (inS 14 14), defBody (inS 14 14), defScope (inS 14 14)⟩
def d18 : DfD := ⟨.meth "Word" "common", "common", "Word.common", defArgs (inS 14 15), defBody (inS 14 15), defScope (inS 14 15)⟩
def d19 : DfD := ⟨.meth "Word" "_told", "_told", "Word._told", defArgs (inS 14 16), defBody (inS 14 16), defScope (inS 14 16)⟩
def d20 : DfD := ⟨.glo "_plain", "_plain", "_plain", defArgs (topS 15), defBody (topS 15), defScope (topS 15)⟩
def d21 : DfD := ⟨.glo "_law_pot", "_law_pot", "_law_pot", defArgs (topS 17), defBody (topS 17), defScope (topS 17)⟩
def d22 : DfD := ⟨.glo "_law_draw", "_law_draw", "_law_draw", defArgs (topS 18), defBody (topS 18), defScope (topS 18)⟩
def d23 : DfD := ⟨.glo "_law_pick", "_law_pick", "_law_pick", defArgs (topS 19), defBody (topS 19), defScope (topS 19)⟩
def d24 : DfD := ⟨.glo "_law_text", "_law_text", "_law_text", defArgs (topS 20), defBody (topS 20), defScope (topS 20)⟩
def d25 : DfD := ⟨.glo "_law_sign", "_law_sign", "_law_sign", defArgs (topS 21), defBody (topS 21), defScope (topS 21)⟩
def d26 : DfD := ⟨.glo "_law_start", "_law_start", "_law_start", defArgs (topS 22), defBody (topS 22), defScope (topS 22)⟩
def d27 : DfD := ⟨.glo "_law_is", "_law_is", "_law_is", defArgs (topS 23), defBody (topS 23), defScope (topS 23)⟩
def d28 : DfD := ⟨.glo "_law_rest", "_law_rest", "_law_rest", defArgs (topS 24), defBody (topS 24), defScope (topS 24)⟩
def d29 : DfD := ⟨.glo "_law_numbers", "_law_numbers", "_law_numbers", defArgs (topS 25), defBody (topS 25), defScope (topS 25)⟩
def d30 : DfD := ⟨.glo "_law_places_right", "_law_places_right", "_law_places_right", defArgs (topS 26), defBody (topS 26), defScope (topS 26)⟩
def d31 : DfD := ⟨.glo "_law_ahead_right", "_law_ahead_right", "_law_ahead_right", defArgs (topS 27), defBody (topS 27), defScope (topS 27)⟩
def d32 : DfD := ⟨.glo "_law_rising", "_law_rising", "_law_rising", defArgs (topS 28), defBody (topS 28), defScope (topS 28)⟩
def d33 : DfD := ⟨.glo "_law_letters_right", "_law_letters_right", "_law_letters_right", defArgs (topS 29), defBody (topS 29), defScope (topS 29)⟩
def d34 : DfD := ⟨.glo "_law_right", "_law_right", "_law_right", defArgs (topS 30), defBody (topS 30), defScope (topS 30)⟩
def d35 : DfD := ⟨.glo "law", "law", "law", defArgs (topS 31), defBody (topS 31), defScope (topS 31)⟩
def dfs : List DfD := [d0, d1, d2, d3, d4, d5, d6, d7, d8, d9, d10, d11, d12, d13, d14, d15, d16, d17, d18, d19, d20, d21, d22, d23, d24, d25, d26, d27, d28, d29, d30, d31, d32, d33, d34, d35]
theorem st0 : StOk pg d0 ⟨["k"], []⟩ (b0, n0.length) := ⟨⟨n0, ⟨rfl, rfl, rfl, by decide +kernel, rfl, by decide +kernel, by decide +kernel⟩, rfl, by decide +kernel⟩, fun _ _ _ _ _ _ us hl => match us, hl with | [_], _ => rfl, fun _ _ _ h => nomatch h⟩
theorem st1 : StOk pg d1 ⟨["value"], []⟩ (b1, n1.length) := ⟨⟨n1, ⟨rfl, rfl, rfl, by decide +kernel, rfl, by decide +kernel, by decide +kernel⟩, rfl, by decide +kernel⟩, fun _ _ _ _ _ _ us hl => match us, hl with | [_], _ => rfl, fun _ _ _ h => nomatch h⟩
theorem st2 : StOk pg d2 ⟨["value"], []⟩ (b2, n2.length) := ⟨⟨n2, ⟨rfl, rfl, rfl, by decide +kernel, rfl, by decide +kernel, by decide +kernel⟩, rfl, by decide +kernel⟩, fun _ _ _ _ _ _ us hl => match us, hl with | [_], _ => rfl, fun _ _ _ h => nomatch h⟩
theorem st3 : StOk pg d3 ⟨["value"], []⟩ (b3, n3.length) := ⟨⟨n3, ⟨rfl, rfl, rfl, by decide +kernel, rfl, by decide +kernel, by decide +kernel⟩, rfl, by decide +kernel⟩, fun _ _ _ _ _ _ us hl => match us, hl with | [_], _ => rfl, fun _ _ _ h => nomatch h⟩
theorem st4 : StOk pg d4 ⟨["value"], []⟩ (b4, n4.length) := ⟨⟨n4, ⟨rfl, rfl, rfl, by decide +kernel, rfl, by decide +kernel, by decide +kernel⟩, rfl, by decide +kernel⟩, fun _ _ _ _ _ _ us hl => match us, hl with | [_], _ => rfl, fun _ _ _ h => nomatch h⟩
theorem st5 : StOk pg d5 ⟨["self", "begin", "lap"], []⟩ (b5, n5.length) := ⟨⟨n5, ⟨rfl, rfl, rfl, by decide +kernel, rfl, by decide +kernel, by decide +kernel⟩, rfl, by decide +kernel⟩, fun _ _ _ _ _ _ us hl => match us, hl with | [_, _, _], _ => rfl, fun _ _ _ h => nomatch h⟩
theorem st6 : StOk pg d6 ⟨["self"], []⟩ (b6, n6.length) := ⟨⟨n6, ⟨rfl, rfl, rfl, by decide +kernel, rfl, by decide +kernel, by decide +kernel⟩, rfl, by decide +kernel⟩, fun _ _ _ _ _ _ us hl => match us, hl with | [_], _ => rfl, fun _ _ _ h => nomatch h⟩
theorem st7 : StOk pg d7 ⟨["self"], []⟩ (b7, n7.length) := ⟨⟨n7, ⟨rfl, rfl, rfl, by decide +kernel, rfl, by decide +kernel, by decide +kernel⟩, rfl, by decide +kernel⟩, fun _ _ _ _ _ _ us hl => match us, hl with | [_], _ => rfl, fun _ _ _ h => nomatch h⟩
theorem st8 : StOk pg d8 ⟨["self", "at"], []⟩ (b8, n8.length) := ⟨⟨n8, ⟨rfl, rfl, rfl, by decide +kernel, rfl, by decide +kernel, by decide +kernel⟩, rfl, by decide +kernel⟩, fun _ _ _ _ _ _ us hl => match us, hl with | [_, _], _ => rfl, fun _ _ _ h => nomatch h⟩
theorem st9 : StOk pg d9 ⟨["self"], []⟩ (b9, n9.length) := ⟨⟨n9, ⟨rfl, rfl, rfl, by decide +kernel, rfl, by decide +kernel, by decide +kernel⟩, rfl, by decide +kernel⟩, fun _ _ _ _ _ _ us hl => match us, hl with | [_], _ => rfl, fun _ _ _ h => nomatch h⟩
theorem st10 : StOk pg d10 ⟨["self", "value"], []⟩ (b10, n10.length) := ⟨⟨n10, ⟨rfl, rfl, rfl, by decide +kernel, rfl, by decide +kernel, by decide +kernel⟩, rfl, by decide +kernel⟩, fun _ _ _ _ _ _ us hl => match us, hl with | [_, _], _ => rfl, fun _ _ _ h => nomatch h⟩
theorem st11 : StOk pg d11 ⟨["self", "other"], []⟩ (b11, n11.length) := ⟨⟨n11, ⟨rfl, rfl, rfl, by decide +kernel, rfl, by decide +kernel, by decide +kernel⟩, rfl, by decide +kernel⟩, fun _ _ _ _ _ _ us hl => match us, hl with | [_, _], _ => rfl, fun _ _ _ h => nomatch h⟩
theorem st12 : StOk pg d12 ⟨["self", "other"], []⟩ (b12, n12.length) := ⟨⟨n12, ⟨rfl, rfl, rfl, by decide +kernel, rfl, by decide +kernel, by decide +kernel⟩, rfl, by decide +kernel⟩, fun _ _ _ _ _ _ us hl => match us, hl with | [_, _], _ => rfl, fun _ _ _ h => nomatch h⟩
theorem st13 : StOk pg d13 ⟨["self"], []⟩ (b13, n13.length) := ⟨⟨n13, ⟨rfl, rfl, rfl, by decide +kernel, rfl, by decide +kernel, by decide +kernel⟩, rfl, by decide +kernel⟩, fun _ _ _ _ _ _ us hl => match us, hl with | [_], _ => rfl, fun _ _ _ h => nomatch h⟩
theorem st14 : StOk pg d14 ⟨["self", "number"], [(1, ["number"], [0, 1])]⟩ (b14, n14.length) := ⟨⟨n14, ⟨rfl, rfl, rfl, by decide +kernel, rfl, by decide +kernel, by decide +kernel⟩, rfl, by decide +kernel⟩, fun _ _ _ _ _ _ us hl => match us, hl with | [_, _], _ => rfl, fun _ _ _ h => by have h := List.mem_singleton.mp h; simp only [Prod.mk.injEq] at h; (obtain ⟨rfl, rfl, rfl⟩ := h; exact ⟨rfl, by decide, fun _ _ _ _ _ _ us ws h1 h2 => match us, ws, h1, h2 with | [_], [_], _, _ => rfl⟩)⟩
theorem st15 : StOk pg d15 ⟨["self", "number"], [(1, ["number"], [0, 1])]⟩ (b15, n15.length) := ⟨⟨n15, ⟨rfl, rfl, rfl, by decide +kernel, rfl, by decide +kernel, by decide +kernel⟩, rfl, by decide +kernel⟩, fun _ _ _ _ _ _ us hl => match us, hl with | [_, _], _ => rfl, fun _ _ _ h => by have h := List.mem_singleton.mp h; simp only [Prod.mk.injEq] at h; (obtain ⟨rfl, rfl, rfl⟩ := h; exact ⟨rfl, by decide, fun _ _ _ _ _ _ us ws h1 h2 => match us, ws, h1, h2 with | [_], [_], _, _ => rfl⟩)⟩
theorem st16 : StOk pg d16 ⟨["self"], []⟩ (b16, n16.length) := ⟨⟨n16, ⟨rfl, rfl, rfl, by decide +kernel, rfl, by decide +kernel, by decide +kernel⟩, rfl, by decide +kernel⟩, fun _ _ _ _ _ _ us hl => match us, hl with | [_], _ => rfl, fun _ _ _ h => nomatch h⟩
theorem st17 : StOk pg d17 ⟨["self"], []⟩ (b17, n17.length) := ⟨⟨n17, ⟨rfl, rfl, rfl, by decide +kernel, rfl, by decide +kernel, by decide +kernel⟩, rfl, by decide +kernel⟩, fun _ _ _ _ _ _ us hl => match us, hl with | [_], _ => rfl, fun _ _ _ h => nomatch h⟩
theorem st18 : StOk pg d18 ⟨["self", "other"], []⟩ (b18, n18.length) := ⟨⟨n18, ⟨rfl, rfl, rfl, by decide +kernel, rfl, by decide +kernel, by decide +kernel⟩, rfl, by decide +kernel⟩, fun _ _ _ _ _ _ us hl => match us, hl with | [_, _], _ => rfl, fun _ _ _ h => nomatch h⟩
theorem st19 : StOk pg d19 ⟨["self", "number"], []⟩ (b19, n19.length) := ⟨⟨n19, ⟨rfl, rfl, rfl, by decide +kernel, rfl, by decide +kernel, by decide +kernel⟩, rfl, by decide +kernel⟩, fun _ _ _ _ _ _ us hl => match us, hl with | [_, _], _ => rfl, fun _ _ _ h => nomatch h⟩
theorem st20 : StOk pg d20 ⟨["begin", "lap"], []⟩ (b20, n20.length) := ⟨⟨n20, ⟨rfl, rfl, rfl, by decide +kernel, rfl, by decide +kernel, by decide +kernel⟩, rfl, by decide +kernel⟩, fun _ _ _ _ _ _ us hl => match us, hl with | [_, _], _ => rfl, fun _ _ _ h => nomatch h⟩
theorem st21 : StOk pg d21 ⟨["_law_script", "_law_k"], []⟩ (b21, n21.length) := ⟨⟨n21, ⟨rfl, rfl, rfl, by decide +kernel, rfl, by decide +kernel, by decide +kernel⟩, rfl, by decide +kernel⟩, fun _ _ _ _ _ _ us hl => match us, hl with | [_, _], _ => rfl, fun _ _ _ h => nomatch h⟩
theorem st22 : StOk pg d22 ⟨["_law_pot_here", "_law_many"], []⟩ (b22, n22.length) := ⟨⟨n22, ⟨rfl, rfl, rfl, by decide +kernel, rfl, by decide +kernel, by decide +kernel⟩, rfl, by decide +kernel⟩, fun _ _ _ _ _ _ us hl => match us, hl with | [_, _], _ => rfl, fun _ _ _ h => nomatch h⟩
theorem st23 : StOk pg d23 ⟨["_law_pot_here", "_law_some"], []⟩ (b23, n23.length) := ⟨⟨n23, ⟨rfl, rfl, rfl, by decide +kernel, rfl, by decide +kernel, by decide +kernel⟩, rfl, by decide +kernel⟩, fun _ _ _ _ _ _ us hl => match us, hl with | [_, _], _ => rfl, fun _ _ _ h => nomatch h⟩
theorem st24 : StOk pg d24 ⟨["_law_pot_here", "_law_signs", "_law_most"], []⟩ (b24, n24.length) := ⟨⟨n24, ⟨rfl, rfl, rfl, by decide +kernel, rfl, by decide +kernel, by decide +kernel⟩, rfl, by decide +kernel⟩, fun _ _ _ _ _ _ us hl => match us, hl with | [_, _, _], _ => rfl, fun _ _ _ h => nomatch h⟩
theorem st25 : StOk pg d25 ⟨["_law_begin", "_law_lap", "_law_place"], []⟩ (b25, n25.length) := ⟨⟨n25, ⟨rfl, rfl, rfl, by decide +kernel, rfl, by decide +kernel, by decide +kernel⟩, rfl, by decide +kernel⟩, fun _ _ _ _ _ _ us hl => match us, hl with | [_, _, _], _ => rfl, fun _ _ _ h => nomatch h⟩
theorem st26 : StOk pg d26 ⟨["_law_begin", "_law_lap", "_law_size"], []⟩ (b26, n26.length) := ⟨⟨n26, ⟨rfl, rfl, rfl, by decide +kernel, rfl, by decide +kernel, by decide +kernel⟩, rfl, by decide +kernel⟩, fun _ _ _ _ _ _ us hl => match us, hl with | [_, _, _], _ => rfl, fun _ _ _ h => nomatch h⟩
theorem st27 : StOk pg d27 ⟨["_law_word", "_law_begin", "_law_lap"], []⟩ (b27, n27.length) := ⟨⟨n27, ⟨rfl, rfl, rfl, by decide +kernel, rfl, by decide +kernel, by decide +kernel⟩, rfl, by decide +kernel⟩, fun _ _ _ _ _ _ us hl => match us, hl with | [_, _, _], _ => rfl, fun _ _ _ h => nomatch h⟩
theorem st28 : StOk pg d28 ⟨["_law_begin", "_law_lap", "_law_number"], []⟩ (b28, n28.length) := ⟨⟨n28, ⟨rfl, rfl, rfl, by decide +kernel, rfl, by decide +kernel, by decide +kernel⟩, rfl, by decide +kernel⟩, fun _ _ _ _ _ _ us hl => match us, hl with | [_, _, _], _ => rfl, fun _ _ _ h => nomatch h⟩
theorem st29 : StOk pg d29 ⟨["_law_pot_here"], []⟩ (b29, n29.length) := ⟨⟨n29, ⟨rfl, rfl, rfl, by decide +kernel, rfl, by decide +kernel, by decide +kernel⟩, rfl, by decide +kernel⟩, fun _ _ _ _ _ _ us hl => match us, hl with | [_], _ => rfl, fun _ _ _ h => nomatch h⟩
theorem st30 : StOk pg d30 ⟨["_law_word", "_law_begin", "_law_lap", "_law_numbers_here"], []⟩ (b30, n30.length) := ⟨⟨n30, ⟨rfl, rfl, rfl, by decide +kernel, rfl, by decide +kernel, by decide +kernel⟩, rfl, by decide +kernel⟩, fun _ _ _ _ _ _ us hl => match us, hl with | [_, _, _, _], _ => rfl, fun _ _ _ h => nomatch h⟩
theorem st31 : StOk pg d31 ⟨["_law_pot_here", "_law_word", "_law_begin", "_law_lap"], []⟩ (b31, n31.length) := ⟨⟨n31, ⟨rfl, rfl, rfl, by decide +kernel, rfl, by decide +kernel, by decide +kernel⟩, rfl, by decide +kernel⟩, fun _ _ _ _ _ _ us hl => match us, hl with | [_, _, _, _], _ => rfl, fun _ _ _ h => nomatch h⟩
theorem st32 : StOk pg d32 ⟨["_law_text_here"], []⟩ (b32, n32.length) := ⟨⟨n32, ⟨rfl, rfl, rfl, by decide +kernel, rfl, by decide +kernel, by decide +kernel⟩, rfl, by decide +kernel⟩, fun _ _ _ _ _ _ us hl => match us, hl with | [_], _ => rfl, fun _ _ _ h => nomatch h⟩
theorem st33 : StOk pg d33 ⟨["_law_word", "_law_begin", "_law_lap"], []⟩ (b33, n33.length) := ⟨⟨n33, ⟨rfl, rfl, rfl, by decide +kernel, rfl, by decide +kernel, by decide +kernel⟩, rfl, by decide +kernel⟩, fun _ _ _ _ _ _ us hl => match us, hl with | [_, _, _], _ => rfl, fun _ _ _ h => nomatch h⟩
theorem st34 : StOk pg d34 ⟨["_law_pot_here"], []⟩ (b34, n34.length) := ⟨⟨n34, ⟨rfl, rfl, rfl, by decide +kernel, rfl, by decide +kernel, by decide +kernel⟩, rfl, by decide +kernel⟩, fun _ _ _ _ _ _ us hl => match us, hl with | [_], _ => rfl, fun _ _ _ h => nomatch h⟩
theorem st35 : StOk pg d35 ⟨["_law_script"], []⟩ (b35, n35.length) := ⟨⟨n35, ⟨rfl, rfl, rfl, by decide +kernel, rfl, by decide +kernel, by decide +kernel⟩, rfl, by decide +kernel⟩, fun _ _ _ _ _ _ us hl => match us, hl with | [_], _ => rfl, fun _ _ _ h => nomatch h⟩
theorem allSt : AllSt pg dfs pg.fns bodies := ⟨st0, st1, st2, st3, st4, st5, st6, st7, st8, st9, st10, st11, st12, st13, st14, st15, st16, st17, st18, st19, st20, st21, st22, st23, st24, st25, st26, st27, st28, st29, st30, st31, st32, st33, st34, st35, True.intro⟩
def fnames : List String := ["_wall", "is_integer", "is_count", "is_text", "check_number", "Word.__init__", "Word.begin", "Word.lap", "Word.__getitem__", "Word.__iter__", "Word.__contains__", "Word.__radd__", "Word.__eq__", "Word.__repr__", "Word.first", "Word.behind", "Word.coming", "Word.again", "Word.common", "Word._told", "_plain", "_law_pot", "_law_draw", "_law_pick", "_law_text", "_law_sign", "_law_start", "_law_is", "_law_rest", "_law_numbers", "_law_places_right", "_law_ahead_right", "_law_rising", "_law_letters_right", "_law_right", "law"]
theorem rep_ok : repB pg bodies = true := by decide +kernel
end K13
set_option Elab.async false
set_option linter.all false
set_option maxRecDepth 100000
set_option maxHeartbeats 0
namespace K13
open PySem PySem.Spec PyProof.Rows L2 Dw
abbrev R : PySem.W.OpenRow := PySem.W.OpenLaw.row PySem.Challenge.rw_ringdepth_k13_whole_words_by_letters
abbrev hk : PySem.W.Hook := hookA 5 pg dfs
def ob (s : PySem.W.SharedT) : AlA := obsAG 5 pg dfs (HandSHeadRun.getT s)
theorem ob_eq (s : PySem.W.SharedT) : ob s = hk.obs s.abs := obsAG_eq (HandSHeadRun.getT_eq s)
def loose : List Str := ["_wall", "is_integer", "is_count", "is_text", "WishError", "InvalidText", "InvalidNumber", "LimitError", "TooMany", "check_number", "Word", "_plain", "_law_pot", "_law_draw", "_law_pick", "_law_text", "_law_sign", "_law_start", "_law_is", "_law_rest", "_law_numbers", "_law_places_right", "_law_ahead_right", "_law_rising", "_law_letters_right", "_law_right"]
theorem run (w : World) : HandSHeadRun.RunEq R (PySem.W.view R.prog [31]) hk ob 4000 loose w := by
  intro os
  kernel_rfl
end K13
set_option linter.all false
set_option maxRecDepth 10000
/-! The plain telling is the first one, by laps and then by begins, that agrees long enough. -/
namespace Wd
theorem least_of {B L b' l' : List Nat} (c : Canon B L) (hl' : 0 < l'.length) (e : ∀ n, sq B L n = sq b' l' n) : L.length ≤ l'.length ∧ (l'.length = L.length → B.length ≤ b'.length) := by
  refine ⟨?_, fun h => begin_le c h fun n => (e n).symm⟩
  rcases Nat.lt_or_ge l'.length L.length with h | h
  · exact absurd (per_of_eq c.1.1 e) (c.1.2 _ hl' h)
  · exact h
theorem pre_take {b l : List Nat} {k m : Nat} (h : k ≤ m) : (pre b l m).take k = pre b l k := by
  unfold pre
  rw [← List.map_take, List.take_range, Nat.min_eq_left h]
theorem pre_begin {b l : List Nat} {m : Nat} (h : b.length ≤ m) : (pre b l m).take b.length = b := by
  rw [pre_take h]
  refine getD_ext (pre_length ..) fun n hn => ?_
  rw [pre_length] at hn
  rw [pre_getD hn, sq_lt hn]
theorem pre_lap {b l : List Nat} {m : Nat} (h : b.length + l.length ≤ m) : ((pre b l m).drop b.length).take l.length = l := by
  have hlen : (((pre b l m).drop b.length).take l.length).length = l.length := by
    rw [List.length_take, List.length_drop, pre_length]; omega
  refine getD_ext hlen fun n hn => ?_
  rw [hlen] at hn
  have : (((pre b l m).drop b.length).take l.length).getD n 0 = (pre b l m).getD (b.length + n) 0 := by
    simp only [List.getD, List.getElem?_take, List.getElem?_drop, hn, if_true]
  rw [this, pre_getD (by omega), sq_ge (by omega), Nat.add_sub_cancel_left, cyc_lt hn]
/-- what agrees with b, l on as many letters as b and twice l have is the same word, if it begins and laps no longer -/
theorem same_of {b l b' l' : List Nat} (hl : 0 < l.length) (hl' : 0 < l'.length) (h1 : b'.length ≤ b.length) (h2 : l'.length ≤ l.length) (h : pre b' l' (b.length + 2 * l.length) = pre b l (b.length + 2 * l.length)) : ∀ n, sq b' l' n = sq b l n := by
  refine agree hl' hl fun n hn => ?_
  have hn' : n < b.length + 2 * l.length := by omega
  have := congrArg (fun x => x.getD n 0) h
  simp only [pre_getD hn'] at this
  exact this
/-- the plain telling is found -/
theorem plain_found {b l B L : List Nat} (hl : 0 < l.length) (c : Canon B L) (e : ∀ n, sq B L n = sq b l n) :
    B.length ≤ b.length ∧ 0 < L.length ∧ L.length ≤ l.length ∧ (pre b l (b.length + 2 * l.length)).take B.length = B ∧ ((pre b l (b.length + 2 * l.length)).drop B.length).take L.length = L ∧ pre B L (b.length + 2 * l.length) = pre b l (b.length + 2 * l.length) := by
  have hp : pre B L (b.length + 2 * l.length) = pre b l (b.length + 2 * l.length) := List.map_congr_left fun n _ => e n
  have h1 := (least_of c hl e).1
  have h2 : B.length ≤ b.length := by
    rcases Nat.lt_or_ge b.length B.length with h | h
    · exfalso
      refine c.2 (by omega) ?_
      have hL := c.1.1
      have p1 := per_of_eq c.1.1 e
      have q1 := e (B.length - 1)
      have q2 := e (B.length - 1 + l.length * L.length)
      rw [sq_per_mul (by omega)] at q2
      rw [sq_lt (by omega)] at q1
      have hbig : 0 < l.length * L.length := Nat.mul_pos hl hL
      have q3 : sq B L (B.length - 1 + l.length * L.length) = cyc L (L.length - 1) := by
        rw [sq_ge (by omega)]
        have : B.length - 1 + l.length * L.length - B.length = (L.length - 1) + L.length * (l.length - 1) := by
          have : l.length * L.length = L.length * (l.length - 1) + L.length := by
            rw [Nat.mul_comm]
            conv => lhs; rw [show l.length = (l.length - 1) + 1 by omega, Nat.mul_succ]
          omega
        rw [this]
        exact (cyc_per L).mul _ _
      rw [q3, cyc_lt (by omega)] at q2
      rw [q1, q2]
    · exact h
  refine ⟨h2, c.1.1, h1, ?_, ?_, hp⟩
  · rw [← hp]; exact pre_begin (by omega)
  · rw [← hp]; exact pre_lap (by omega)
end Wd
set_option linter.all false
set_option maxRecDepth 10000
/-! Other tellings of a word; a plain telling is there; a word's letters drawn from its begin into its lap. -/
namespace Wd
theorem getD_take {l : List Nat} {k n : Nat} (h : n < k) : (l.take k).getD n 0 = l.getD n 0 := by
  simp only [List.getD, List.getElem?_take, h, if_true]
theorem getD_app1 {a b : List Nat} {n : Nat} (h : n < a.length) : (a ++ b).getD n 0 = a.getD n 0 := by
  simp only [List.getD, List.getElem?_append_left h]
theorem getD_app2 {a b : List Nat} {n : Nat} (h : a.length ≤ n) : (a ++ b).getD n 0 = b.getD (n - a.length) 0 := by
  simp only [List.getD, List.getElem?_append_right h]
/-- a telling that goes on further ahead of its lap -/
theorem sq_more {b l b' l' : List Nat} (hb : b' = pre b l b'.length) (hle : b.length ≤ b'.length) (hc : ∀ n, cyc l' n = cyc l (n + (b'.length - b.length))) (n : Nat) : sq b' l' n = sq b l n := by
  rcases Nat.lt_or_ge n b'.length with h | h
  · rw [sq_lt h]
    have : b'.getD n 0 = (pre b l b'.length).getD n 0 := congrArg (fun x => x.getD n 0) hb
    rw [this, pre_getD h]
  · rw [sq_ge h, hc, sq_ge (b := b) (by omega), show n - b'.length + (b'.length - b.length) = n - b.length by omega]
theorem cyc_laps {l : List Nat} {m : Nat} (hm : 0 < m) (hl : 0 < l.length) (n : Nat) : cyc (laps l m) n = cyc l n := by
  have h0 : 0 < m * l.length := Nat.mul_pos hm hl
  show (laps l m).getD (n % (laps l m).length) 0 = _
  rw [laps_length, laps_getD (Nat.mod_lt _ h0)]
  unfold cyc
  rw [Nat.mod_mul_left_mod]
theorem laps_one (l : List Nat) : laps l 1 = l := by simp [laps]
theorem laps_two (l : List Nat) : laps l 2 = l ++ l := by simp [laps, List.replicate_succ]
theorem sq_laps {b l : List Nat} {m : Nat} (hm : 0 < m) (hl : 0 < l.length) (n : Nat) : sq b (laps l m) n = sq b l n := by
  unfold sq
  split
  · rfl
  · exact cyc_laps hm hl _
/-- begin and the lap's first c letters, the lap turned -/
theorem sq_turned {b l : List Nat} {c : Nat} (hc : c ≤ l.length) (n : Nat) : sq (b ++ l.take c) (l.drop c ++ l.take c) n = sq b l n := by
  have hlen : (b ++ l.take c).length = b.length + c := by simp; omega
  refine sq_more ?_ (by omega) (fun n => ?_) n
  · rw [hlen, ← take_pre (b := b) (l := l) (m := 1) (k := b.length + c) (by omega), laps_one]
    exact (List.take_length_add_append ..).symm
  · rw [cyc_rot hc, hlen, Nat.add_sub_cancel_left]
/-- begin and a whole lap -/
theorem sq_lapped {b l : List Nat} (n : Nat) : sq (b ++ l) l n = sq b l n := by
  have := sq_turned (b := b) (l := l) (c := l.length) (Nat.le_refl _) n
  rwa [List.take_length, List.drop_length, List.nil_append] at this
theorem sq_lapped2 {b l : List Nat} {m : Nat} (n : Nat) (hl : 0 < l.length) (hm : 0 < m) : sq (b ++ laps l m) (laps l m) n = sq b l n := by
  rw [sq_lapped, sq_laps hm hl]
theorem sq_turned2 {b l : List Nat} {c : Nat} (hl : 0 < l.length) (hc : c ≤ l.length) (n : Nat) : sq (b ++ l ++ l.take c) (l.drop c ++ l ++ l.take c) n = sq b l n := by
  rw [← sq_lapped (b := b) (l := l), ← sq_laps (b := b ++ l) (l := l) (m := 2) (by decide) hl n, ← sq_turned (b := b ++ l) (l := laps l 2) (c := c) (by rw [laps_length]; omega), laps_two, List.drop_append_of_le_length hc, List.take_append_of_le_length hc]
/-- each word has a plain telling -/
theorem canon_at {b l : List Nat} (hp : Prim l) : ∃ B L, Canon B L ∧ ∀ n, sq B L n = sq b l n := by
  rcases Classical.em (∃ i, i < b.length ∧ b.getD (b.length - 1 - i) 0 ≠ l.getD (l.length - 1 - i % l.length) 0) with h | h
  · obtain ⟨s, hs, h1, h2⟩ := parts_of (f := fun i => b.getD (b.length - 1 - i) 0) (g := fun i => l.getD (l.length - 1 - i % l.length) 0) _ h
    exact ⟨_, _, canon_of hp (Nat.le_of_lt hs) h2 fun _ => h1⟩
  · exact ⟨_, _, canon_of hp (Nat.le_refl _) (fun j hj => Classical.byContradiction fun z => h ⟨j, hj, z⟩) fun z => absurd z (Nat.lt_irrefl _)⟩
theorem least_rot {l : List Nat} (hl : 0 < l.length) : ∃ k, 0 < k ∧ k ≤ l.length ∧ rotOk l k ∧ ∀ j, 0 < j → j < k → ¬ rotOk l j := by
  have go : ∀ m, m ≤ l.length → (∀ j, 0 < j → j ≤ m → ¬ rotOk l j) ∨ ∃ k, 0 < k ∧ k ≤ m ∧ rotOk l k ∧ ∀ j, 0 < j → j < k → ¬ rotOk l j := by
    intro m
    induction m with
    | zero => intro _; exact .inl fun j h1 h2 => by omega
    | succ m ih =>
      intro hm
      rcases ih (by omega) with h | ⟨k, h1, h2, h3⟩
      · rcases Classical.em (rotOk l (m + 1)) with c | c
        · exact .inr ⟨m + 1, by omega, by omega, c, fun j j1 j2 => h j j1 (by omega)⟩
        · refine .inl fun j j1 j2 => ?_
          rcases Nat.lt_or_ge j (m + 1) with z | z
          · exact h j j1 (by omega)
          · rw [show j = m + 1 by omega]; exact c
      · exact .inr ⟨k, h1, by omega, h3⟩
  rcases go l.length (Nat.le_refl _) with h | ⟨k, h1, h2, h3⟩
  · exact absurd (show rotOk l l.length by unfold rotOk; simp) (h _ hl (Nat.le_refl _))
  · exact ⟨k, h1, h2, h3⟩
theorem canon_ex {b l : List Nat} (hl : 0 < l.length) : ∃ B L, Canon B L ∧ ∀ n, sq B L n = sq b l n := by
  obtain ⟨k, k0, k1, hr, least⟩ := least_rot hl
  have hcy := cyc_take k0 k1 (rotOk_per k1 hr)
  obtain ⟨B, L, c, e⟩ := canon_at (b := b) (prim_take k0 k1 hr least)
  refine ⟨B, L, c, fun n => ?_⟩
  rw [e]
  unfold sq
  split
  · rfl
  · exact hcy _
/-- a lap in which a letter comes just once -/
theorem prim_once {l : List Nat} {w i : Nat} (hi : i < l.length) (hw : l.getD i 0 = w) (once : ∀ j, j < l.length → l.getD j 0 = w → j = i) : Prim l := by
  refine ⟨by omega, fun k k0 k1 hk => ?_⟩
  have e1 : cyc l (i + k) = w := by rw [hk, cyc_lt hi, hw]
  unfold cyc at e1
  have h1 := once _ (Nat.mod_lt _ (by omega)) e1
  rcases Nat.lt_or_ge (i + k) l.length with h | h
  · rw [Nat.mod_eq_of_lt h] at h1; omega
  · rw [Nat.mod_eq_sub_mod h, Nat.mod_eq_of_lt (by omega)] at h1; omega
/-- one letter goes from the begin's end to the lap's -/
theorem sq_back {b l : List Nat} {c : Nat} (h : 0 < l.length) (n : Nat) (hb : b.length = b.length) (e : l.getD (l.length - 1) 0 = c) : sq b (c :: l.take (l.length - 1)) n = sq (b ++ [c]) l n := by
  have hl' : (c :: l.take (l.length - 1)) = l.drop (l.length - 1) ++ l.take (l.length - 1) := by
    have : l.drop (l.length - 1) = [c] := by
      refine getD_ext (by simp; omega) fun m hm => ?_
      have hm : m = 0 := by simp at hm; omega
      subst hm
      simp only [List.getD, List.getElem?_drop, Nat.add_zero]
      exact e
    rw [this]; rfl
  have hrot : ∀ m, cyc l m = cyc (c :: l.take (l.length - 1)) (m + 1) := fun m => by
    rw [hl', cyc_rot (by omega), show m + 1 + (l.length - 1) = m + l.length by omega, cyc_per]
  symm
  refine sq_more ?_ (by simp) (fun m => ?_) n
  · refine getD_ext (by rw [pre_length]) fun m hm => ?_
    rw [pre_getD hm]
    simp only [List.length_append, List.length_cons, List.length_nil] at hm
    rcases Nat.lt_or_ge m b.length with z | z
    · rw [sq_lt z, getD_app1 z]
    · rw [sq_ge z, getD_app2 z, show m - b.length = 0 by omega, cyc_lt (by simp)]; rfl
  · rw [hrot]; simp
end Wd
set_option Elab.async false
set_option linter.all false
set_option maxRecDepth 100000
set_option maxHeartbeats 4000000
namespace K13
open PySem PySem.Spec Dw L2
local macro_rules | `(tactic| walk_at "wp") => `(tactic| try simp only [wpB, Dw.wpS, wpE, wpG, wpGs, wpA, wpT, wpO, wpR, wpC, startE, List.map, List.length, List.replicate, List.cons_append, List.nil_append, List.getElem?_cons_zero, List.getElem?_cons_succ, List.set_cons_zero, List.set_cons_succ, Tgs.len, cmpW, bK_some, roK_ite, roK_some, subW, binW, fldW, mk_length, mk_add, okSz_iff, ite_prop, Nat.sub_zero, Nat.reduceAdd, Nat.reduceSub, true_and, and_true, if_tt, if_ff,
  dv_non, dv_bl, dv_int, dv_str, dv_lst, dv_rol, dv_tup, dv_ins, io_non, io_bl, io_int, io_str, io_lst, io_rol, io_tup, io_ins, bo_addi, bo_subi, bo_muli, bo_muls, bo_mull, bo_fdiv, bo_mod, bo_pow, bo_adds, bo_addl, co_eqi, co_nei, co_eqs, co_nes, co_eqb, co_neb, co_lt, co_le, co_gt, co_ge, co_is, co_isn, isNon_non, isNon_int, tr_bl, tr_non, tr_int, xi_lst, xi_tup, xi_rol,
  bp_lens, bp_lenl, bp_lent, bp_lenr, bp_abs, bp_max, bp_min, bp_int, bp_divmod, bp_repr, bp_isci, bp_isi, isi_ss, isi_ii, isi_bi, bm_asc, bm_alp, bm_low, bm_find, Option.map_some, Bool.not_true, Bool.not_false, lit0, mk_dec, reduceCtorEq, false_implies, implies_true, forall_const, not_false_eq_true, not_true_eq_false, Decidable.not_not, and_self, true_implies, ls_str, ls_lst, items_lst, items_tup, items_rol, decide_eq_true_eq, ne_eq, Bool.and_eq_true, Bool.not_eq_true', decide_eq_false_iff_not])
/-! ### the defs of the words -/
theorem is_text_ok {n : Nat} {l : List Nat} (h : Tx l) {cs : CS} {Q : D → Bool → CS → Prop} {E : Exn → CS → Prop} (q : Q (.bl true) false cs) : phiN pg bodies (n + 1) 3 [.str (mk l)] cs Q E := by
  refine phi_at (b := (b3, 1)) rfl ?_
  unfold b3
  walk_at "wp"
  by_cases e : l = []
  · simp only [decide_eq_true e]; exact q
  · have hl : 0 < l.length := by cases l with
      | nil => exact absurd rfl e
      | cons _ _ => simp
    simp only [decide_eq_false e, tx_ascii h, tx_alpha h hl, tx_lower h hl]
    exact q
theorem check_number_ok {n k : Nat} {cs : CS} {Q : D → Bool → CS → Prop} {E : Exn → CS → Prop} (q : Q .non false cs) : phiN pg bodies (n + 3) 4 [.int (k : Int)] cs Q E := by
  refine phi_at (b := (b4, 1)) rfl ?_
  unfold b4
  walk_at "wp"
  refine ⟨rfl, phi_at (b := (b2, 1)) rfl ?_⟩
  unfold b2
  walk_at "wp"
  refine ⟨rfl, phi_at (b := (b1, 1)) rfl ?_⟩
  unfold b1
  walk_at "wp"
  exact ⟨fun h => h (by omega), fun _ => q⟩

theorem plain_ok {n : Nat} {b l : List Nat} (hl : 0 < l.length) (hb1 : b.length ≤ 100000) (hl1 : l.length ≤ 100000) {cs : CS} {Q : D → Bool → CS → Prop} {E : Exn → CS → Prop}
    (q : ∀ b' l', Wd.Canon b' l' → (∀ n, Wd.sq b' l' n = Wd.sq b l n) → (Tx b → Tx b') → (Tx l → Tx l') → b'.length ≤ b.length → l'.length ≤ l.length → Q (.tup [.str (mk b'), .str (mk l')]) false cs) :
    phiN pg bodies (n + 1) 20 [.str (mk b), .str (mk l)] cs Q E := by
  refine phi_at (b := (b20, 5)) rfl ?_
  unfold b20
  obtain ⟨k, k0, k1, hr, least, hf⟩ := find_rot hl
  walk_at "wp"
  rw [hf, cut_to]
  refine ⟨sizeL (by omega), sizeL (by omega), ?_⟩
  have hsh : (l.take k).length = k := by simp; omega
  have hp := Wd.prim_take k0 k1 hr least
  have hcy := Wd.cyc_take k0 k1 (Wd.rotOk_per k1 hr)
  have htx : Tx l → Tx (l.take k) := fun h => h.take k
  generalize l.take k = sh at hsh hp hcy htx
  have hz : ∀ i, i % sh.length < sh.length := fun i => Nat.mod_lt _ (by omega)
  refine wh_inv (I := fun j env c => ∃ s : Nat, env = [some (.str (mk b)), some (.str (mk l)), some (.str (mk sh)), some (.int s), none] ∧ c = cs ∧ s ≤ b.length ∧ j = b.length - s ∧
      ∀ i, i < s → b.getD (b.length - 1 - i) 0 = sh.getD (sh.length - 1 - i % sh.length) 0) (j := b.length) ⟨0, rfl, rfl, Nat.zero_le _, by omega, fun i hi => by omega⟩ ?_
  rintro j env c K ⟨s, rfl, rfl, hs, rfl, same⟩ hK
  have hzs := hz s
  have fin : (s < b.length → b.getD (b.length - 1 - s) 0 ≠ sh.getD (sh.length - 1 - s % sh.length) 0) → Q (.tup [.str (mk (b.take (b.length - s))), .str (mk (sh.drop (sh.length - s % sh.length) ++ sh.take (sh.length - s % sh.length)))]) false c := fun stop => by
    obtain ⟨c1, c2⟩ := Wd.canon_of hp hs same stop
    refine q _ _ c1 (fun n => ?_) (fun h => h.take _) (fun h => ((htx h).drop _).app ((htx h).take _)) (by simp) (by simp; omega)
    rw [c2]
    unfold Wd.sq
    split
    · rfl
    · exact hcy _
  have f1 : (b.length : Int) - (s : Int) = ((b.length - s : Nat) : Int) := by omega
  have f2 : (sh.length : Int) - ((s % sh.length : Nat) : Int) = ((sh.length - s % sh.length : Nat) : Int) := by omega
  have g1 : b.length ≤ sizeLine := sizeL (by omega)
  have g2 : sh.length ≤ sizeLine := sizeL (by omega)
  have g3 : ¬ ((sh.length : Int) = 0) := by omega
  have g4 : (sh.length - (sh.length - s % sh.length)) + min (sh.length - s % sh.length) sh.length ≤ sizeLine := sizeL (by omega)
  by_cases hc : s < b.length
  · have x1 : ixD (.str (mk b)) (.int (-1 - (s : Int))) = some (.str (mk [b.getD (b.length - 1 - s) 0])) := by
      rw [sign_neg (k := b.length - 1 - s) (by omega) (by omega) (by omega), if_pos g1]
    have x2 : ixD (.str (mk sh)) (.int (-1 - ((s % sh.length : Nat) : Int))) = some (.str (mk [sh.getD (sh.length - 1 - s % sh.length) 0])) := by
      rw [sign_neg (k := sh.length - 1 - s % sh.length) (by omega) (by omega) (by omega), if_pos g2]
    have hc' : (s : Int) < (b.length : Int) := by omega
    walk_at "wp"
    simp only [x1, fmod_nat, x2, g1, g2, g3, f1, f2, hc', cut_to, cut_from]
    walk_at "wp"
    simp only [fmod_nat, g1, g2, g3, f1, f2, cut_to, cut_from, List.cons.injEq, and_true, List.length_drop, List.length_take, g4]
    walk_at "wp"
    refine ⟨fun e => ?_, fun e => ?_⟩
    · refine hK (b.length - (s + 1)) _ _ (by omega) ⟨s + 1, by simp, rfl, by omega, rfl, fun i hi => ?_⟩
      rcases Nat.lt_or_ge i s with h | h
      · exact same i h
      · rw [show i = s by omega]; exact e
    · exact ⟨sizeL (by decide), fin fun _ => e⟩
  · have hc' : ¬ (s : Int) < (b.length : Int) := by omega
    walk_at "wp"
    simp only [fmod_nat, g1, g2, g3, f1, f2, hc', cut_to, cut_from, List.length_drop, List.length_take, g4]
    walk_at "wp"
    exact ⟨by simpa using g4, sizeL (by decide), fin fun z => absurd z hc⟩

/-! ### words -/
def wd (b l : List Nat) : D := .ins 0 [("_begin", .str (mk b)), ("_lap", .str (mk l))]
/-- a word in its plain telling -/
structure Wk (b l : List Nat) : Prop where
  canon : Wd.Canon b l
  tb : Tx b
  tl : Tx l
  lb : b.length ≤ 8000
  ll : l.length ≤ 8000
theorem Wk.pos {b l : List Nat} (w : Wk b l) : 0 < l.length := w.canon.1.1
theorem cdel_cset {cs : CS} {a : Addr} (h : cs a = none) (o o' o'' : Ob) : cdel (cset (cset (cset cs a o) a o') a o'') a = cs := by
  funext b
  by_cases e : b = a
  · rw [e, cdel_same, h]
  · rw [cdel_ne e, cset_ne e, cset_ne e, cset_ne e]
theorem make_len {n : Nat} {b l : List Nat} (hb : Tx b) (hl : Tx l) (h0 : 0 < l.length) (h1 : b.length ≤ 8000) (h2 : l.length ≤ 8000) {env : Dw.Env} {cs : CS} {W : WT} {Q : QT}
    (q : ∀ bb ll, Wk bb ll → (∀ n, Wd.sq bb ll n = Wd.sq b l n) → bb.length ≤ b.length → Q (wd bb ll) false env cs) : makeW pg (phiN pg bodies (n + 2)) 0 5 [.str (mk b), .str (mk l)] env cs W Q := by
  intro a ha
  refine ⟨rfl, phi_at (b := (b5, 3)) rfl ?_⟩
  unfold b5
  have hne : l ≠ [] := fun e => by rw [e] at h0; simp at h0
  have c1 : pg.con 0 "MOST_LETTERS" = some (.int 8000) := rfl
  have g1 : b.length ≤ sizeLine := sizeL (by omega)
  have g2 : l.length ≤ sizeLine := sizeL (by omega)
  have g3 : ¬ (8000 < (b.length : Int)) := by omega
  have g4 : ¬ (8000 < (l.length : Int)) := by omega
  walk_at "wp"
  refine ⟨rfl, is_text_ok hb ?_⟩
  walk_at "wp"
  refine ⟨rfl, is_text_ok hl ?_⟩
  walk_at "wp"
  simp only [hne, c1, g1, g2]
  walk_at "wp"
  simp only [g3, g4]
  walk_at "wp"
  refine ⟨rfl, plain_ok h0 (by omega) (by omega) fun b' l' k1 k2 k3 k4 k5 k6 => ?_⟩
  walk_at "wp"
  have i1 : pg.isF 0 "_begin" = true := rfl
  have i2 : pg.isF 0 "_lap" = true := rfl
  rw [sf_ins cset_same]
  refine ⟨i1, by simp, ?_⟩
  rw [sf_ins cset_same]
  refine ⟨i2, by simp [putE], ?_⟩
  simp only [cset_same, true_and]
  have e : cdel (cset (cset (cset cs a (.ins 0 [])) a (.ins 0 (putE "_begin" (.str (mk b')) []))) a (.ins 0 (putE "_lap" (.str (mk l')) (putE "_begin" (.str (mk b')) [])))) a = cs := cdel_cset ha _ _ _
  rw [e]
  exact q b' l' ⟨k1, k3 hb, k4 hl, by omega, by omega⟩ k2 k5
theorem make_ok {n : Nat} {b l : List Nat} (hb : Tx b) (hl : Tx l) (h0 : 0 < l.length) (h1 : b.length ≤ 8000) (h2 : l.length ≤ 8000) {env : Dw.Env} {cs : CS} {W : WT} {Q : QT}
    (q : ∀ bb ll, Wk bb ll → (∀ n, Wd.sq bb ll n = Wd.sq b l n) → Q (wd bb ll) false env cs) : makeW pg (phiN pg bodies (n + 2)) 0 5 [.str (mk b), .str (mk l)] env cs W Q :=
  make_len hb hl h0 h1 h2 fun bb ll k1 k2 _ => q bb ll k1 k2
section
variable {b l : List Nat} {cs : CS} {x y : D}
theorem io_wd : insOf cs (wd b l) = some (0, [(Str.ofString "_begin", D.str (mk b)), (Str.ofString "_lap", D.str (mk l))]) := rfl
theorem dv_wd : dv cs (wd b l) = wd b l := rfl
theorem m_eq : pg.meth 0 "__eq__" = some 12 := rfl
theorem m_get : pg.meth 0 "__getitem__" = some 8 := rfl
theorem m_radd : pg.meth 0 "__radd__" = some 11 := rfl
theorem p_b : pg.prop 0 "_begin" = none := rfl
theorem p_l : pg.prop 0 "_lap" = none := rfl
theorem p_b2 : pg.prop 0 "begin" = some 6 := rfl
theorem p_l2 : pg.prop 0 "lap" = some 7 := rfl
theorem lk_b : List.lookup (Str.ofString "_begin") [(Str.ofString "_begin", x), (Str.ofString "_lap", y)] = some x := rfl
theorem lk_l : List.lookup (Str.ofString "_lap") [(Str.ofString "_begin", x), (Str.ofString "_lap", y)] = some y := rfl
theorem i_b : pg.isF 0 "_begin" = true := rfl
theorem i_l : pg.isF 0 "_lap" = true := rfl
theorem c_m : pg.con 0 "MOST_LETTERS" = some (.int 8000) := rfl
theorem mL_first : mL pg "first" (wd b l) cs = some 14 := rfl
theorem mL_behind : mL pg "behind" (wd b l) cs = some 15 := rfl
theorem mL_told : mL pg "_told" (wd b l) cs = some 19 := rfl
theorem isc_wd : biopP pg (.isc 0) [wd b l] = some (.bl true, false) := rfl
end
local macro_rules | `(tactic| walk_at "ww") => `(tactic| try simp only [wpB, Dw.wpS, wpE, wpG, wpGs, wpA, wpT, wpO, wpR, wpC, startE, List.map, List.length, List.replicate, List.cons_append, List.nil_append, List.getElem?_cons_zero, List.getElem?_cons_succ, List.set_cons_zero, List.set_cons_succ, Tgs.len, cmpW, bK_some, roK_ite, roK_some, subW, binW, fldW, mk_length, mk_add, okSz_iff, ite_prop, Nat.sub_zero, Nat.reduceAdd, Nat.reduceSub, true_and, and_true, if_tt, if_ff,
  dv_non, dv_bl, dv_int, dv_str, dv_lst, dv_rol, dv_tup, dv_ins, io_non, io_bl, io_int, io_str, io_lst, io_rol, io_tup, io_ins, bo_addi, bo_subi, bo_muli, bo_muls, bo_mull, bo_fdiv, bo_mod, bo_pow, bo_adds, bo_addl, co_eqi, co_nei, co_eqs, co_nes, co_eqb, co_neb, co_lt, co_le, co_gt, co_ge, co_is, co_isn, isNon_non, isNon_int, tr_bl, tr_non, tr_int, xi_lst, xi_tup, xi_rol,
  bp_lens, bp_lenl, bp_lent, bp_lenr, bp_abs, bp_max, bp_min, bp_int, bp_divmod, bp_repr, bp_isci, bp_isi, isi_ss, isi_ii, isi_bi, bm_asc, bm_alp, bm_low, bm_find, Option.map_some, Bool.not_true, Bool.not_false, lit0, mk_dec, io_wd, dv_wd, m_eq, m_get, m_radd, p_b, p_l, p_b2, p_l2, lk_b, lk_l, i_b, i_l, c_m, mL_first, mL_behind, mL_told, isc_wd, eqW, reduceCtorEq, false_implies, implies_true, forall_const, not_false_eq_true, not_true_eq_false, Decidable.not_not, and_self, true_implies, ls_str, ls_lst, items_lst, items_tup, items_rol, decide_eq_true_eq, ne_eq, Bool.and_eq_true, Bool.not_eq_true', decide_eq_false_iff_not])
theorem begin_ok {n : Nat} {b l : List Nat} {cs : CS} {Q : D → Bool → CS → Prop} {E : Exn → CS → Prop} (q : Q (.str (mk b)) false cs) : phiN pg bodies (n + 1) 6 [wd b l] cs Q E := by
  refine phi_at (b := (b6, 1)) rfl ?_
  unfold b6
  walk_at "ww"
  exact q
theorem lap_ok {n : Nat} {b l : List Nat} {cs : CS} {Q : D → Bool → CS → Prop} {E : Exn → CS → Prop} (q : Q (.str (mk l)) false cs) : phiN pg bodies (n + 1) 7 [wd b l] cs Q E := by
  refine phi_at (b := (b7, 1)) rfl ?_
  unfold b7
  walk_at "ww"
  exact q
theorem eq_ok {n : Nat} {b l b' l' : List Nat} {cs : CS} {Q : D → Bool → CS → Prop} {E : Exn → CS → Prop} (q : Q (.bl (decide (b = b' ∧ l = l'))) false cs) : phiN pg bodies (n + 1) 12 [wd b l, wd b' l'] cs Q E := by
  refine phi_at (b := (b12, 2)) rfl ?_
  unfold b12
  walk_at "ww"
  by_cases h : b = b'
  · simp only [h, true_and] at q
    simp only [h, decide_true]
    exact q
  · simp only [h, false_and, decide_false] at q
    simp only [h, decide_false]
    exact q
theorem get_ok {n k : Nat} {b l : List Nat} (w : Wk b l) {cs : CS} {Q : D → Bool → CS → Prop} {E : Exn → CS → Prop} (q : Q (.str (mk [Wd.sq b l k])) false cs) : phiN pg bodies (n + 4) 8 [wd b l, .int (k : Int)] cs Q E := by
  refine phi_at (b := (b8, 2)) rfl ?_
  unfold b8
  have h0 := w.pos
  have h1 := w.lb
  have h2 := w.ll
  walk_at "ww"
  refine ⟨rfl, check_number_ok ?_⟩
  refine ⟨sizeL (by omega), fun h => ?_, fun h => ⟨sizeL (by omega), sizeL (by omega), by omega, ?_⟩⟩
  · rw [sign_at (k := k) rfl (by omega), if_pos (sizeL (by omega))]
    rw [Wd.sq_lt (by omega)] at q
    exact q
  · rw [show (k : Int) - (b.length : Int) = ((k - b.length : Nat) : Int) by omega, fmod_nat, sign_at (k := (k - b.length) % l.length) rfl (Nat.mod_lt _ h0), if_pos (sizeL (by omega))]
    rw [Wd.sq_ge (by omega)] at q
    exact q
theorem radd_ok {n : Nat} {b l t : List Nat} (w : Wk b l) (ht : Tx t) (h : t.length + b.length ≤ 8000) {cs : CS} {Q : D → Bool → CS → Prop} {E : Exn → CS → Prop}
    (q : ∀ bb ll, Wk bb ll → (∀ n, Wd.sq bb ll n = Wd.sq (t ++ b) l n) → Q (wd bb ll) false cs) : phiN pg bodies (n + 3) 11 [wd b l, .str (mk t)] cs Q E := by
  refine phi_at (b := (b11, 2)) rfl ?_
  unfold b11
  walk_at "ww"
  refine ⟨rfl, is_text_ok ht ?_⟩
  walk_at "ww"
  exact ⟨sizeL (by omega), make_ok (ht.app w.tb) w.tl w.pos (by simpa using h) w.ll fun bb ll h1 h2 => q bb ll h1 h2⟩
theorem behind_ok {n k : Nat} {b l : List Nat} (w : Wk b l) {cs : CS} {Q : D → Bool → CS → Prop} {E : Exn → CS → Prop}
    (q : ∀ bb ll, Wk bb ll → (∀ n, Wd.sq bb ll n = Wd.sq b l (n + k)) → Q (wd bb ll) false cs) : phiN pg bodies (n + 4) 15 [wd b l, .int (k : Int)] cs Q E := by
  refine phi_at (b := (b15, 3)) rfl ?_
  unfold b15
  have h0 := w.pos
  have h1 := w.lb
  have h2 := w.ll
  walk_at "ww"
  refine ⟨rfl, check_number_ok ?_⟩
  refine ⟨sizeL (by omega), fun h => ⟨sizeL (by omega), ?_⟩, fun h => ⟨sizeL (by omega), sizeL (by omega), by omega, sizeL (by omega), sizeL (by omega), ?_⟩⟩
  · rw [cut_from]
    refine make_ok (w.tb.drop k) w.tl h0 (by simp; omega) h2 fun bb ll k1 k2 => q bb ll k1 fun m => ?_
    rw [k2, Wd.sq_drop (by omega)]
  · rw [show (k : Int) - (b.length : Int) = ((k - b.length : Nat) : Int) by omega, fmod_nat, cut_from, cut_to, mk_add, mk_length, mk_length]
    have hz := Nat.mod_lt (k - b.length) h0
    refine ⟨sizeL (by simp; omega), make_ok Tx.nil ((w.tl.drop _).app (w.tl.take _)) (by simp; omega) (by simp) (by simp; omega) fun bb ll k1 k2 => q bb ll k1 fun m => ?_⟩
    rw [k2, Wd.sq_turn h0 (by omega)]
theorem told_ok {n k : Nat} {b l : List Nat} (w : Wk b l) (hk : k ≤ 100000) {cs : CS} {Q : D → Bool → CS → Prop} {E : Exn → CS → Prop} (q : Q (.str (mk (Wd.pre b l k))) false cs) :
    phiN pg bodies (n + 1) 19 [wd b l, .int (k : Int)] cs Q E := by
  refine phi_at (b := (b19, 3)) rfl ?_
  unfold b19
  have h0 := w.pos
  have h1 := w.lb
  have h2 := w.ll
  have d1 := Nat.div_add_mod k l.length
  have d2 := Nat.mod_lt k h0
  have d3 : l.length * (k / l.length + 1) = l.length * (k / l.length) + l.length := Nat.mul_succ _ _
  have d4 : k / l.length ≤ k := Nat.div_le_self _ _
  have e1 : ((k / l.length : Nat) : Int) + 1 = ((k / l.length + 1 : Nat) : Int) := by omega
  have e2 : (rep l (k / l.length + 1)).length = l.length * (k / l.length + 1) := by rw [rep_length, Nat.mul_comm]
  walk_at "ww"
  simp only [fdiv_nat, e1, rep_mk, Int.toNat_natCast, mk_length, e2, mk_add, cut_to]
  have e3 := Wd.take_pre (b := b) (l := l) (m := k / l.length + 1) (k := k) (by rw [Nat.mul_comm]; omega)
  rw [← e3] at q
  generalize k / l.length = m at *
  refine ⟨sizeL (by omega), ⟨by omega, by omega⟩, ⟨by omega, by omega, sizeL (by omega)⟩, sizeL (by omega), sizeL (by rw [List.length_append, e2]; omega), ?_⟩
  exact q
theorem first_ok {n k : Nat} {b l : List Nat} (w : Wk b l) (hk : k ≤ 8000) {cs : CS} {Q : D → Bool → CS → Prop} {E : Exn → CS → Prop} (q : Q (.str (mk (Wd.pre b l k))) false cs) :
    phiN pg bodies (n + 4) 14 [wd b l, .int (k : Int)] cs Q E := by
  refine phi_at (b := (b14, 2)) rfl ?_
  unfold b14
  have g : ¬ (8000 < (k : Int)) := by omega
  walk_at "ww"
  refine ⟨rfl, check_number_ok ?_⟩
  simp only [g]
  walk_at "ww"
  exact ⟨rfl, told_ok w (by omega) q⟩
theorem eq_self {n : Nat} {b l : List Nat} {cs : CS} {Q : D → Bool → CS → Prop} {E : Exn → CS → Prop} (q : Q (.bl true) false cs) : phiN pg bodies (n + 1) 12 [wd b l, wd b l] cs Q E :=
  eq_ok (by rw [decide_eq_true ⟨rfl, rfl⟩]; exact q)
theorem m_in : pg.meth 0 "__contains__" = some 10 := rfl
theorem mL_coming {b l : List Nat} {cs : CS} : mL pg "coming" (wd b l) cs = some 16 := rfl
theorem mL_again {b l : List Nat} {cs : CS} : mL pg "again" (wd b l) cs = some 17 := rfl
/-- one letter, in the word or not -/
theorem in_ok {n c : Nat} {b l : List Nat} (w : Wk b l) {cs : CS} {Q : D → Bool → CS → Prop} {E : Exn → CS → Prop} (q : Q (.bl (decide (c ∈ b ++ l))) false cs) : phiN pg bodies (n + 1) 10 [wd b l, .str (mk [c])] cs Q E := by
  refine phi_at (b := (b10, 2)) rfl ?_
  unfold b10
  have h1 := w.lb
  have h2 := w.ll
  walk_at "ww"
  unfold inW
  simp only [io_str, dv_str, mk_add, co_in, bK_some]
  exact ⟨sizeL (by decide), sizeL (by omega), q⟩
/-- what is no letter is not in it -/
theorem in_odd {n : Nat} {b l : List Nat} {d : D} {cs : CS} {Q : D → Bool → CS → Prop} {E : Exn → CS → Prop} (hd : dv cs d = d) (h : (isiD "str" d = some false) ∨ ∃ x : Str, d = .str x ∧ x.length ≤ 16777216 ∧ x.length ≠ 1) (q : Q (.bl false) false cs) :
    phiN pg bodies (n + 1) 10 [wd b l, d] cs Q E := by
  refine phi_at (b := (b10, 2)) rfl ?_
  unfold b10
  rcases h with h | ⟨x, rfl, hx, h1⟩
  · walk_at "ww"
    simp only [hd, h]
    walk_at "ww"
    exact q
  · walk_at "ww"
    have e : decide (((x.length : Nat) : Int) = 1) = false := decide_eq_false (by omega)
    refine ⟨sizeL hx, ?_⟩
    rw [e]
    exact q
/-- the letters of a text, rising, as the program tells them -/
theorem lets_wp {n : Nat} {m : List Nat} {e : Ex} {env : Dw.Env} {cs : CS} {W : WT} {Q : QT} (tm : Tx m) (he : ∀ R : QT, R (.str (mk m)) false env cs → wpE pg (phiN pg bodies n) e env cs W R)
    (q : ∀ ls : List Nat, ls.Pairwise (· < ·) → (∀ c, c ∈ ls ↔ c ∈ m) → Q (.str (mk ls)) false env cs) : wpE pg (phiN pg bodies n) (.bm .join (.str "") (.cons (.sset e) .nil)) env cs W Q := by
  simp only [wpE, wpA]
  refine he _ ?_
  simp only [dv_str, set_mk]
  refine ⟨lets_few tm, fun ys s1 s2 s3 => ?_⟩
  obtain ⟨ls, rfl, h1, h2⟩ := lets_of s1 s2 s3
  have few : ls.length ≤ 16777216 := by
    have := rising_len h1 (k := 123) fun c hc => by have := tm c ((h2 c).mp hc); omega
    omega
  have em : (ls.map fun c => mk [c]).map D.str = ls.map fun c => D.str (mk [c]) := by rw [List.map_map]; rfl
  have hj : bmop .join (.str (mk [])) [.lst (ls.map fun c => D.str (mk [c]))] = some (.str (mk ls), false) := bm_join few
  simp only [List.map_cons, List.map_nil, dv_lst, em, lit0, hj, roK_some]
  exact q ls h1 h2
theorem lets_wpL {n : Nat} {m : List Nat} {e : Ex} {env : Dw.Env} {cs : CS} {W : WT} {Q : QT} (tm : Tx m) (he : ∀ R : QT, R (.lst (m.map fun c => .str (mk [c]))) true env cs → wpE pg (phiN pg bodies n) e env cs W R)
    (q : ∀ ls : List Nat, ls.Pairwise (· < ·) → (∀ c, c ∈ ls ↔ c ∈ m) → Q (.str (mk ls)) false env cs) : wpE pg (phiN pg bodies n) (.bm .join (.str "") (.cons (.sset e) .nil)) env cs W Q := by
  simp only [wpE, wpA]
  refine he _ ?_
  have hs : setItems (.lst (m.map fun c => D.str (mk [c]))) = some (m.map fun c => mk [c]) := strsD_map m
  simp only [dv_lst, hs]
  refine ⟨lets_few tm, fun ys s1 s2 s3 => ?_⟩
  obtain ⟨ls, rfl, h1, h2⟩ := lets_of s1 s2 s3
  have few : ls.length ≤ 16777216 := by
    have := rising_len h1 (k := 123) fun c hc => by have := tm c ((h2 c).mp hc); omega
    omega
  have em : (ls.map fun c => mk [c]).map D.str = ls.map fun c => D.str (mk [c]) := by rw [List.map_map]; rfl
  have hj : bmop .join (.str (mk [])) [.lst (ls.map fun c => D.str (mk [c]))] = some (.str (mk ls), false) := bm_join few
  simp only [List.map_cons, List.map_nil, dv_lst, em, lit0, hj, roK_some]
  exact q ls h1 h2
theorem coming_ok {n : Nat} {b l : List Nat} (w : Wk b l) {cs : CS} {Q : D → Bool → CS → Prop} {E : Exn → CS → Prop} (q : ∀ ls : List Nat, ls.Pairwise (· < ·) → (∀ c, c ∈ ls ↔ c ∈ b ++ l) → Q (.str (mk ls)) false cs) : phiN pg bodies (n + 1) 16 [wd b l] cs Q E := by
  refine phi_at (b := (b16, 1)) rfl ?_
  unfold b16
  have h1 := w.lb
  have h2 := w.ll
  simp only [wpB, Dw.wpS]
  refine lets_wp (m := b ++ l) (w.tb.app w.tl) (fun R hR => ?_) q
  walk_at "ww"
  exact ⟨sizeL (by omega), hR⟩
theorem again_ok {n : Nat} {b l : List Nat} (w : Wk b l) {cs : CS} {Q : D → Bool → CS → Prop} {E : Exn → CS → Prop} (q : ∀ ls : List Nat, ls.Pairwise (· < ·) → (∀ c, c ∈ ls ↔ c ∈ l) → Q (.str (mk ls)) false cs) : phiN pg bodies (n + 1) 17 [wd b l] cs Q E := by
  refine phi_at (b := (b17, 1)) rfl ?_
  unfold b17
  simp only [wpB, Dw.wpS]
  refine lets_wp (m := l) w.tl (fun R hR => ?_) q
  walk_at "ww"
  exact hR
end K13
set_option Elab.async false
set_option linter.all false
set_option maxRecDepth 100000
set_option maxHeartbeats 4000000
namespace K13
open PySem PySem.Spec Dw L2
local macro_rules | `(tactic| walk_at "wp") => `(tactic| try simp only [wpB, Dw.wpS, wpE, wpG, wpGs, wpA, wpT, wpO, wpR, wpC, startE, List.map, List.length, List.replicate, List.cons_append, List.nil_append, List.getElem?_cons_zero, List.getElem?_cons_succ, List.set_cons_zero, List.set_cons_succ, Tgs.len, cmpW, bK_some, roK_ite, roK_some, subW, binW, fldW, mk_length, mk_add, okSz_iff, ite_prop, Nat.sub_zero, Nat.reduceAdd, Nat.reduceSub, true_and, and_true, if_tt, if_ff,
  dv_non, dv_bl, dv_int, dv_str, dv_lst, dv_rol, dv_tup, dv_ins, io_non, io_bl, io_int, io_str, io_lst, io_rol, io_tup, io_ins, bo_addi, bo_subi, bo_muli, bo_muls, bo_mull, bo_fdiv, bo_mod, bo_pow, bo_adds, bo_addl, co_eqi, co_nei, co_eqs, co_nes, co_eqb, co_neb, co_lt, co_le, co_gt, co_ge, co_is, co_isn, isNon_non, isNon_int, tr_bl, tr_non, tr_int, xi_lst, xi_tup, xi_rol,
  bp_lens, bp_lenl, bp_lent, bp_lenr, bp_abs, bp_max, bp_min, bp_int, bp_divmod, bp_repr, bp_isci, bp_isi, isi_ss, isi_ii, isi_bi, bm_asc, bm_alp, bm_low, bm_find, Option.map_some, Bool.not_true, Bool.not_false, lit0, mk_dec, reduceCtorEq, false_implies, implies_true, forall_const, not_false_eq_true, not_true_eq_false, Decidable.not_not, and_self, true_implies, ls_str, ls_lst, items_lst, items_tup, items_rol, decide_eq_true_eq, ne_eq, Bool.and_eq_true, Bool.not_eq_true', decide_eq_false_iff_not])
/-! ### what the law draws -/
theorem draw_ok {n m : Nat} {a : Addr} (h0 : 0 < m) (h1 : m < 1073741824) {cs : CS} (hp : Pot cs a) {Q : D → Bool → CS → Prop} {E : Exn → CS → Prop} (q : ∀ (v : Nat) cs', v < m → Kept a cs cs' → Q (.int (v : Int)) false cs') :
    phiN pg bodies (n + 1) 22 [.cell a, .int (m : Int)] cs Q E := by
  refine phi_at (b := (b22, 3)) rfl ?_
  unfold b22
  obtain ⟨x, y, hc, hy⟩ := hp
  have kept : ∀ u v : Nat, v ≤ 2147483629 → Kept a cs (cset cs a (.lst [.int u, .int v])) := fun u v hv => ⟨⟨u, v, cset_same, hv⟩, fun b o hb e => by rw [cset_ne hb]; exact e⟩
  have at0 : ∀ {α : Type} (u v : α), atI [u, v] 0 = some u := fun u v => rfl
  have at1 : ∀ {α : Type} (u v : α), atI [u, v] 1 = some v := fun u v => rfl
  have x0 : ixN 2 0 = some 0 := rfl
  have x1 : ixN 2 1 = some 1 := rfl
  walk_at "wp"
  simp only [dv_cell hc, io_cell hc, xi_lst, at0, at1]
  walk_at "wp"
  refine ⟨fun hx => ⟨⟨by omega, by omega⟩, ?_⟩, fun hx => ?_⟩
  · rw [set_cell (j := 0) hc rfl]
    refine q (x % m) _ (Nat.mod_lt _ h0) ?_
    exact kept (x / m) y hy
  · have hb1 : mulOk (y : Int) 48271 = true := by simp only [mulOk, Bool.or_eq_true, Bool.and_eq_true, decide_eq_true_eq]; omega
    simp only [hb1]
    walk_at "wp"
    have e1 : (y : Int) * 48271 + 11251 = ((y * 48271 + 11251 : Nat) : Int) := by omega
    have e2 : (2147483629 : Int) = ((2147483629 : Nat) : Int) := rfl
    rw [e1, e2, fmod_nat]
    generalize hz : (y * 48271 + 11251) % 2147483629 = z
    have hz1 : z < 2147483629 := by rw [← hz]; exact Nat.mod_lt _ (by decide)
    refine ⟨by omega, ?_⟩
    rw [set_cell (j := 1) hc rfl]
    have hk := kept x z (by omega)
    have hc2 : cset cs a (.lst ([D.int x, D.int y].set 1 (.int z))) a = some (.lst [.int x, .int z]) := cset_same
    have hs : cset cs a (.lst ([D.int x, D.int y].set 1 (.int z))) = cset cs a (.lst [.int x, .int z]) := rfl
    rw [← hs] at hk
    generalize cset cs a (.lst ([D.int x, D.int y].set 1 (.int z))) = cs2 at hc2 hk ⊢
    simp only [dv_cell hc2, io_cell hc2, xi_lst, at1]
    have hb2 : mulOk (z : Int) z = true := by simp only [mulOk, Bool.or_eq_true, Bool.and_eq_true, decide_eq_true_eq]; omega
    walk_at "wp"
    simp only [hb2, true_and]
    have e3 : (z : Int) * z = ((z * z : Nat) : Int) := by simp
    have e4 : (2147483549 : Int) = ((2147483549 : Nat) : Int) := rfl
    have e5 : (13 : Int) = ((13 : Nat) : Int) := rfl
    rw [e3, e4, fmod_nat, e5, fdiv_nat, fmod_nat]
    exact ⟨by omega, ⟨by omega, by omega⟩, by omega, q _ _ (Nat.mod_lt _ h0) hk⟩

theorem pick_str_ok {n : Nat} {a : Addr} {l : List Nat} (h0 : 0 < l.length) (h1 : l.length < 100000) {cs : CS} (hp : Pot cs a) {Q : D → Bool → CS → Prop} {E : Exn → CS → Prop} (q : ∀ c cs', c ∈ l → Kept a cs cs' → Q (.str (mk [c])) false cs') :
    phiN pg bodies (n + 2) 23 [.cell a, .str (mk l)] cs Q E := by
  refine phi_at (b := (b23, 2)) rfl ?_
  unfold b23
  walk_at "wp"
  refine ⟨sizeL (by omega), rfl, draw_ok h0 (by omega) hp fun v cs' hv hk => ?_⟩
  rw [sign_at (k := v) rfl hv, if_pos (sizeL (by omega))]
  exact q _ cs' (by simp [List.getD, hv]) hk
theorem pick_lst_ok {n : Nat} {a : Addr} {xs : List D} (h0 : 0 < xs.length) (h1 : xs.length < 100000) {cs : CS} (hp : Pot cs a) {Q : D → Bool → CS → Prop} {E : Exn → CS → Prop} (q : ∀ d cs', d ∈ xs → Kept a cs cs' → Q d false cs') :
    phiN pg bodies (n + 2) 23 [.cell a, .lst xs] cs Q E := by
  refine phi_at (b := (b23, 2)) rfl ?_
  unfold b23
  walk_at "wp"
  refine ⟨rfl, draw_ok h0 (by omega) hp fun v cs' hv hk => ?_⟩
  have e : atI xs (v : Int) = some xs[v] := atI_at rfl (by simp [hv])
  walk_at "wp"
  rw [e]
  exact q _ cs' (by simp) hk
theorem text_ok {n m : Nat} {a : Addr} {l : List Nat} (h0 : 0 < l.length) (h1 : l.length < 100000) (hm : m < 100000) {cs : CS} (hp : Pot cs a) {Q : D → Bool → CS → Prop} {E : Exn → CS → Prop}
    (q : ∀ t cs', (∀ c ∈ t, c ∈ l) → t.length ≤ m → Kept a cs cs' → Q (.str (mk t)) false cs') : phiN pg bodies (n + 3) 24 [.cell a, .str (mk l), .int (m : Int)] cs Q E := by
  refine phi_at (b := (b24, 4)) rfl ?_
  unfold b24
  walk_at "wp"
  have e1 : (m : Int) + 1 = ((m + 1 : Nat) : Int) := by omega
  rw [e1]
  refine ⟨rfl, draw_ok (by omega) (by omega) hp fun v cs1 hv hk => ⟨⟨by omega, by omega⟩, fun c hc => ?_⟩⟩
  obtain ⟨hca, hc0⟩ := hk.none hc
  refine forL_inv (I := fun pre env cs2 => (∃ w, env = [some (.cell a), some (.str (mk l)), some (.int m), w]) ∧ (∃ t : List Nat, cs2 c = some (.lst (t.map fun c => .str (mk [c]))) ∧ t.length = pre.length ∧ ∀ c ∈ t, c ∈ l) ∧ Kept a cs cs2) ?_
    ⟨⟨_, rfl⟩, ⟨[], cset_same, rfl, fun c h => by cases h⟩, hk.cset hca hc0⟩ ?_
  · rintro pre d post env cs2 k hits ⟨⟨w, rfl⟩, ⟨t, ht, hl, hin⟩, hk2⟩ hK
    simp only [wipeE]
    walk_at "wp"
    refine ⟨rfl, pick_str_ok h0 h1 hk2.pot fun ch cs3 hch hk3 => ?_⟩
    have ht3 := hk3.2 c _ hca ht
    rw [app_cell ht3]
    have hlen : pre.length < v := by
      have := congrArg List.length hits
      simp [rngI] at this
      omega
    refine ⟨by rw [List.length_map, sizeLine_eq]; omega, hK _ _ ⟨⟨_, rfl⟩, ⟨t ++ [ch], by rw [cset_same]; simp, by simp [hl], fun x hx => ?_⟩, (hk2.trans hk3).cset hca hc0⟩⟩
    rcases List.mem_append.mp hx with h | h
    · exact hin x h
    · rw [List.mem_singleton.mp h]; exact hch
  · rintro env cs2 ⟨⟨w, rfl⟩, ⟨t, ht, hl, hin⟩, hk2⟩
    have hlen : t.length = v := by rw [hl]; simp [rngI]
    simp only [ht]
    have hj : bmop .join (.str (mk [])) [.lst (t.map fun c => D.str (mk [c]))] = some (.str (mk t), false) := bm_join (by omega)
    simp only [hj, roK_some]
    exact q t _ hin (by omega) (hk2.cdel hca hc0)
/-! ### the law's own words -/
theorem cset_twice {cs : CS} {a : Addr} {o o' : Ob} : cset (cset cs a o) a o' = cset cs a o' := by
  funext b
  by_cases e : b = a
  · rw [e, cset_same, cset_same]
  · rw [cset_ne e, cset_ne e, cset_ne e]
theorem cdel_cset1 {cs : CS} {a : Addr} {o : Ob} (h : cs a = none) : cdel (cset cs a o) a = cs := by
  funext b
  by_cases e : b = a
  · rw [e, cdel_same, h]
  · rw [cdel_ne e, cset_ne e]
theorem mul_l (a v : Int) (h : (decide (-(2 ^ 64) < a) && decide (a < 2 ^ 64)) = true) : mulOk a v = true := by
  unfold mulOk
  rw [h, Bool.true_or]
theorem mul_2 (v : Int) : mulOk 2 v = true := mul_l 2 v rfl
theorem cut_mid {l : List Nat} {a b : Nat} : L2.cutS (mk l) (some (a : Int)) (some (b : Int)) = mk ((l.drop a).take (b - a)) := by
  rw [cut_mk, HT.sIx_nat, HT.sIx_nat]
  congr 1
  rcases Nat.le_total a l.length with h | h
  · rw [Nat.min_eq_left h]
    rcases Nat.le_total b l.length with h' | h'
    · rw [Nat.min_eq_left h']
    · rw [Nat.min_eq_right h', List.take_of_length_le (by simp), List.take_of_length_le (by simp; omega)]
  · rw [Nat.min_eq_right h, List.drop_length, List.drop_of_length_le h]; simp
theorem rng_at {lo : Int} {N : Nat} {pre post : List D} {d : D} (h : rngI lo N = pre ++ d :: post) : d = .int (lo + (pre.length : Int)) ∧ pre.length < N := by
  have hlt : pre.length < N := by
    have := congrArg List.length h
    simp [rngI] at this; omega
  have e1 : (rngI lo N)[pre.length]? = some d := by rw [h]; simp
  unfold rngI at e1
  rw [List.getElem?_map, List.getElem?_range hlt] at e1
  cases e1
  exact ⟨rfl, hlt⟩
theorem rng_len {lo : Int} {N : Nat} : (rngI lo N).length = N := by simp [rngI]
theorem sign_ok {n : Nat} {b l : List Nat} {i : Nat} (hl : 0 < l.length) (hb1 : b.length ≤ 100000) (hb2 : l.length ≤ 100000) {cs : CS} {Q : D → Bool → CS → Prop} {E : Exn → CS → Prop} (q : Q (.str (mk [Wd.sq b l i])) false cs) :
    phiN pg bodies (n + 1) 25 [.str (mk b), .str (mk l), .int i] cs Q E := by
  refine phi_at (b := (b25, 3)) rfl ?_
  unfold b25
  walk_at "wp"
  refine ⟨sizeL (by omega), fun h => ?_, fun h => ⟨sizeL (by omega), sizeL (by omega), by omega, ?_⟩⟩
  · rw [sign_at (k := i) rfl (by omega), if_pos (sizeL (by omega))]
    rw [Wd.sq_lt (by omega)] at q
    exact q
  · rw [show (i : Int) - (b.length : Int) = ((i - b.length : Nat) : Int) by omega, fmod_nat, sign_at (k := (i - b.length) % l.length) rfl (Nat.mod_lt _ hl), if_pos (sizeL (by omega))]
    rw [Wd.sq_ge (by omega)] at q
    exact q
theorem start_ok {n N : Nat} {b l : List Nat} (hl : 0 < l.length) (hb1 : b.length ≤ 100000) (hb2 : l.length ≤ 100000) (hN : N ≤ 100000) {cs : CS} {Q : D → Bool → CS → Prop} {E : Exn → CS → Prop} (q : Q (.str (mk (Wd.pre b l N))) false cs) :
    phiN pg bodies (n + 2) 26 [.str (mk b), .str (mk l), .int (N : Int)] cs Q E := by
  refine phi_at (b := (b26, 4)) rfl ?_
  unfold b26
  walk_at "wp"
  refine ⟨⟨by omega, by omega⟩, fun c hc => ?_⟩
  rw [Int.toNat_natCast]
  refine forL_inv (I := fun pre env cs2 => (∃ w, env = [some (.str (mk b)), some (.str (mk l)), some (.int N), w]) ∧ cs2 = cset cs c (.lst ((Wd.pre b l pre.length).map fun c => .str (mk [c])))) ?_ ⟨⟨_, rfl⟩, rfl⟩ ?_
  · rintro pre d post env cs2 k hits ⟨⟨w, rfl⟩, rfl⟩ hK
    obtain ⟨rfl, hlt⟩ := rng_at hits
    simp only [wipeE]
    walk_at "wp"
    rw [Int.zero_add]
    refine ⟨rfl, sign_ok hl hb1 hb2 ?_⟩
    rw [app_cell cset_same, cset_twice]
    refine ⟨by rw [List.length_map, Wd.pre_length, sizeLine_eq]; omega, hK _ _ ⟨⟨_, rfl⟩, ?_⟩⟩
    have : Wd.pre b l (pre.length + 1) = Wd.pre b l pre.length ++ [Wd.sq b l pre.length] := by
      unfold Wd.pre; simp [List.range_succ]
    simp only [List.length_append, List.length_cons, List.length_nil, Nat.zero_add, this, List.map_append, List.map_cons, List.map_nil]
  · rintro env cs2 ⟨⟨w, rfl⟩, rfl⟩
    rw [rng_len]
    simp only [cset_same, cdel_cset1 hc]
    have hj : bmop .join (.str (mk [])) [.lst ((Wd.pre b l N).map fun c => D.str (mk [c]))] = some (.str (mk (Wd.pre b l N)), false) := bm_join (by rw [Wd.pre_length]; omega)
    simp only [hj, roK_some]
    exact q
def tw (b l : List Nat) : D := .tup [.str (mk b), .str (mk l)]
end K13
set_option Elab.async false
set_option linter.all false
set_option maxRecDepth 100000
set_option maxHeartbeats 1000000
namespace K13
open PySem PySem.Spec Dw L2
theorem lit_abc : Str.ofString "abc" = mk [97, 98, 99] := by decide +kernel
theorem lit_abcdz : Str.ofString "abcdz" = mk [97, 98, 99, 100, 122] := by decide +kernel
theorem lit_d : Str.ofString "d" = mk [100] := by decide +kernel
theorem lit_a : Str.ofString "a" = mk [97] := by decide +kernel
theorem tn2 : Int.toNat 2 = 2 := rfl
theorem tn3 : Int.toNat 3 = 3 := rfl
theorem tx_of {l : List Nat} (h : (l.all fun c => decide (97 ≤ c) && decide (c ≤ 122)) = true) : Tx l := fun c hc => by
  have := List.all_eq_true.mp h c hc
  simpa using this
theorem dv_tw {b l : List Nat} {cs : CS} : dv cs (tw b l) = tw b l := rfl
theorem io_tw {b l : List Nat} {cs : CS} : insOf cs (tw b l) = none := rfl
theorem xi_tw0 {b l : List Nat} : ixD (tw b l) (.int 0) = some (.str (mk b)) := rfl
theorem xi_tw1 {b l : List Nat} : ixD (tw b l) (.int 1) = some (.str (mk l)) := rfl
theorem tw_fold {b l : List Nat} : D.tup [.str (mk b), .str (mk l)] = tw b l := rfl
local macro_rules | `(tactic| walk_at "w3") => `(tactic| try simp only [wpB, Dw.wpS, wpE, wpG, wpGs, wpA, wpT, wpO, wpR, wpC, startE, List.map, List.length, List.replicate, List.cons_append, List.nil_append, List.getElem?_cons_zero, List.getElem?_cons_succ, List.set_cons_zero, List.set_cons_succ, Tgs.len, cmpW, bK_some, roK_ite, roK_some, subW, binW, fldW, mk_length, mk_add, okSz_iff, ite_prop, Nat.sub_zero, Nat.reduceAdd, Nat.reduceSub, true_and, and_true, if_tt, if_ff, dv_non, dv_bl, dv_int, dv_str, dv_lst, dv_rol, dv_tup, dv_ins, io_non, io_bl, io_int, io_str, io_lst, io_rol, io_tup, io_ins, bo_addi, bo_subi, bo_muli, bo_muls, bo_mull, bo_fdiv, bo_mod, bo_pow, bo_adds, bo_addl, co_eqi, co_nei, co_eqs, co_nes, co_eqb, co_neb, co_lt, co_le, co_gt, co_ge, co_is, co_isn, isNon_non, isNon_int, tr_bl, tr_non, tr_int, xi_lst, xi_tup, xi_rol, bp_lens, bp_lenl, bp_lent, bp_lenr, bp_abs, bp_max, bp_min, bp_int, bp_divmod, bp_repr, bp_isci, bp_isi, isi_ss, isi_ii, isi_bi, bm_asc, bm_alp, bm_low, bm_find, Option.map_some, Bool.not_true, Bool.not_false, lit0, mk_dec, dv_tw, io_tw, xi_tw0, xi_tw1, tw_fold, lit_abc, lit_abcdz, lit_d, lit_a, mL_coming, mL_again, m_in, tn2, tn3, dv_dic, io_dic, rep_mk, reduceCtorEq, false_implies, implies_true, forall_const, not_false_eq_true, not_true_eq_false, Decidable.not_not, and_self, true_implies, ls_str, ls_lst, items_lst, items_tup, items_rol, decide_eq_true_eq, ne_eq, Bool.and_eq_true, Bool.not_eq_true', decide_eq_false_iff_not, io_wd, dv_wd, m_eq, m_get, m_radd, p_b, p_l, p_b2, p_l2, lk_b, lk_l, i_b, i_l, c_m, mL_first, mL_behind, mL_told, isc_wd, eqW])
/-- a telling of the law's -/
structure Sk (b l : List Nat) : Prop where
  tb : Tx b
  tl : Tx l
  pos : 0 < l.length
  lb : b.length ≤ 100
  ll : l.length ≤ 100
theorem same_pre {b l b' l' : List Nat} (e : ∀ n, Wd.sq b l n = Wd.sq b' l' n) (N : Nat) : Wd.pre b l N = Wd.pre b' l' N := List.map_congr_left fun n _ => e n
def li2 : Sms := .nil
def li1 : Sms := .cons (.ret (.and (.cmp .Eq (.mcall "first" (.var 0) (.cons (.var 3) .nil)) (.call 26 (.cons (.var 1) (.cons (.var 2) (.cons (.var 3) .nil))))) (.one (.cmp .Eq (.mcall "first" (.var 0) (.cons (.bin .Add (.var 3) (.int 9)) .nil)) (.call 26 (.cons (.var 1) (.cons (.var 2) (.cons (.bin .Add (.var 3) (.int 9)) .nil)))))))) li2
def li0 : Sms := .cons (.asg (.nm 3) (.bin .Add (.bin .Add (.bin .Add (.bi .len (.cons (.fld (.var 0) "begin") .nil)) (.bi .len (.cons (.fld (.var 0) "lap") .nil))) (.bi .len (.cons (.var 1) .nil))) (.bi .len (.cons (.var 2) .nil)))) li1
theorem li_is : b27 = li0 := rfl
theorem is_ok {n : Nat} {B L b l : List Nat} (w : Wk B L) (s : Sk b l) (e : ∀ n, Wd.sq B L n = Wd.sq b l n) {cs : CS} {Q : D → Bool → CS → Prop} {E : Exn → CS → Prop} (q : Q (.bl true) false cs) :
    phiN pg bodies (n + 5) 27 [wd B L, .str (mk b), .str (mk l)] cs Q E := by
  refine phi_at (b := (b27, 4)) rfl ?_
  show wpB _ _ b27 _ _ _ _
  have s1 := s.lb
  have s2 := s.ll
  have s3 := s.pos
  obtain ⟨hB, _, hL, _⟩ := Wd.plain_found s3 w.canon e
  rw [li_is]
  have go : ∀ N : Nat, N ≤ 900 → wpB pg (phiN pg bodies (n + 4)) li1 [some (wd B L), some (.str (mk b)), some (.str (mk l)), some (.int (N : Int))] cs (fun x _ c => E x c) { nx := fun _ c => Q .non false c, rt := Q } := by
    intro N hN
    unfold li1
    walk_at "w3"
    refine ⟨rfl, first_ok w (by omega) ⟨rfl, start_ok s3 (by omega) (by omega) (by omega) ?_⟩⟩
    rw [same_pre e N]
    walk_at "w3"
    rw [show (N : Int) + 9 = ((N + 9 : Nat) : Int) by omega]
    refine ⟨rfl, first_ok w (by omega) ⟨rfl, start_ok s3 (by omega) (by omega) (by omega) ?_⟩⟩
    rw [same_pre e (N + 9)]
    walk_at "w3"
    exact q
  unfold li0
  walk_at "w3"
  refine ⟨rfl, begin_ok ?_⟩
  walk_at "w3"
  refine ⟨sizeL (by omega), rfl, lap_ok ?_⟩
  walk_at "w3"
  refine ⟨sizeL (by omega), sizeL (by omega), sizeL (by omega), ?_⟩
  rw [show (B.length : Int) + (L.length : Int) + (b.length : Int) + (l.length : Int) = ((B.length + L.length + b.length + l.length : Nat) : Int) by omega]
  exact go _ (by omega)
theorem rest_ok {n k : Nat} {b l : List Nat} (s : Sk b l) {cs : CS} {Q : D → Bool → CS → Prop} {E : Exn → CS → Prop} (q : ∀ b' l', Sk b' l' → (∀ n, Wd.sq b' l' n = Wd.sq b l (n + k)) → Q (tw b' l') false cs) :
    phiN pg bodies (n + 1) 28 [.str (mk b), .str (mk l), .int (k : Int)] cs Q E := by
  refine phi_at (b := (b28, 4)) rfl ?_
  unfold b28
  have s1 := s.lb
  have s2 := s.ll
  have s3 := s.pos
  walk_at "w3"
  refine ⟨sizeL (by omega), fun h => ?_, fun h => ?_⟩
  · have h : k ≤ b.length := by omega
    rw [cut_from]
    walk_at "w3"
    refine ⟨sizeL (by omega), sizeL (by decide), q _ _ ⟨s.tb.drop _, s.tl, s3, by simp; omega, s2⟩ fun n => Wd.sq_drop h n⟩
  · have h : b.length < k := by omega
    have hz := Nat.mod_lt (k - b.length) s3
    rw [show (k : Int) - (b.length : Int) = ((k - b.length : Nat) : Int) by omega, fmod_nat, cut_from, cut_to]
    walk_at "w3"
    refine ⟨sizeL (by omega), sizeL (by omega), by omega, sizeL (by omega), sizeL (by omega), sizeL (by simp; omega), sizeL (by decide), ?_⟩
    refine q _ _ ⟨Tx.nil, (s.tl.drop _).app (s.tl.take _), by simp; omega, by simp, by simp; omega⟩ fun n => Wd.sq_turn s3 (by omega) n
end K13
set_option Elab.async false
set_option linter.all false
set_option maxRecDepth 100000
set_option maxHeartbeats 1000000
namespace K13
open PySem PySem.Spec Dw L2
local macro_rules | `(tactic| walk_at "w3") => `(tactic| try simp only [wpB, Dw.wpS, wpE, wpG, wpGs, wpA, wpT, wpO, wpR, wpC, startE, List.map, List.length, List.replicate, List.cons_append, List.nil_append, List.getElem?_cons_zero, List.getElem?_cons_succ, List.set_cons_zero, List.set_cons_succ, Tgs.len, cmpW, bK_some, roK_ite, roK_some, subW, binW, fldW, mk_length, mk_add, okSz_iff, ite_prop, Nat.sub_zero, Nat.reduceAdd, Nat.reduceSub, true_and, and_true, if_tt, if_ff, dv_non, dv_bl, dv_int, dv_str, dv_lst, dv_rol, dv_tup, dv_ins, io_non, io_bl, io_int, io_str, io_lst, io_rol, io_tup, io_ins, bo_addi, bo_subi, bo_muli, bo_muls, bo_mull, bo_fdiv, bo_mod, bo_pow, bo_adds, bo_addl, co_eqi, co_nei, co_eqs, co_nes, co_eqb, co_neb, co_lt, co_le, co_gt, co_ge, co_is, co_isn, isNon_non, isNon_int, tr_bl, tr_non, tr_int, xi_lst, xi_tup, xi_rol, bp_lens, bp_lenl, bp_lent, bp_lenr, bp_abs, bp_max, bp_min, bp_int, bp_divmod, bp_repr, bp_isci, bp_isi, isi_ss, isi_ii, isi_bi, bm_asc, bm_alp, bm_low, bm_find, Option.map_some, Bool.not_true, Bool.not_false, lit0, mk_dec, dv_tw, io_tw, xi_tw0, xi_tw1, tw_fold, lit_abc, lit_abcdz, lit_d, lit_a, mL_coming, mL_again, m_in, tn2, tn3, dv_dic, io_dic, rep_mk, reduceCtorEq, false_implies, implies_true, forall_const, not_false_eq_true, not_true_eq_false, Decidable.not_not, and_self, true_implies, ls_str, ls_lst, items_lst, items_tup, items_rol, decide_eq_true_eq, ne_eq, Bool.and_eq_true, Bool.not_eq_true', decide_eq_false_iff_not, io_wd, dv_wd, m_eq, m_get, m_radd, p_b, p_l, p_b2, p_l2, lk_b, lk_l, i_b, i_l, c_m, mL_first, mL_behind, mL_told, isc_wd, eqW])
def IsN (x : D) : Prop := ∃ k : Nat, x = .int (k : Int)
def nu1c2 : Sms := .nil
def nu1c1 : Sms := .cons (.app 1 (.bin .Add (.bin .Mult (.bin .Pow (.int 10) (.int 20)) (.call 22 (.cons (.var 0) (.cons (.int 1000) .nil)))) (.call 22 (.cons (.var 0) (.cons (.bin .Pow (.int 10) (.int 6)) .nil))))) nu1c2
def nu1c0 : Sms := .cons (.app 1 (.call 22 (.cons (.var 0) (.cons (.int 40) .nil)))) nu1c1
def nu1b : Sms := nu1c0
def nu3 : Sms := .nil
def nu2 : Sms := .cons (.ret (.own 1)) nu3
def nu1 : Sms := .cons (.for_ (.nm 2) (.rng1 (.int 6)) nu1b) nu2
def nu0 : Sms := .cons (.asgN 1 (.bin .Add (.lrg (.int 12)) (.lst (.cons (.bin .Pow (.int 10) (.int 29)) (.cons (.bin .Add (.bin .Pow (.int 10) (.int 29)) (.int 1)) (.cons (.int 999) (.cons (.int 123456789) .nil))))))) nu1
theorem nu_is : b29 = nu0 := rfl
theorem pw20 : (10 : Int) ^ (Int.toNat 20) = ((10 ^ 20 : Nat) : Int) := by decide +kernel
theorem pw6 : (10 : Int) ^ (Int.toNat 6) = ((1000000 : Nat) : Int) := by decide +kernel
theorem pw29 : (10 : Int) ^ (Int.toNat 29) = ((10 ^ 29 : Nat) : Int) := by decide +kernel
theorem numbers_ok {n : Nat} {a : Addr} {cs : CS} (hp : Pot cs a) {Q : D → Bool → CS → Prop} {E : Exn → CS → Prop} (q : ∀ xs cs', (∀ x ∈ xs, IsN x) → xs.length ≤ 100 → Kept a cs cs' → Q (.lst xs) true cs') :
    phiN pg bodies (n + 2) 29 [.cell a] cs Q E := by
  refine phi_at (b := (b29, 3)) rfl ?_
  show wpB _ _ b29 _ _ _ _
  rw [nu_is]
  unfold nu0
  walk_at "w3"
  obtain ⟨bg, hbg⟩ : ∃ bg : Int, bg = (10 : Int) ^ (Int.toNat 29) := ⟨_, rfl⟩
  have hb0 : ∃ k : Nat, bg = (k : Int) := ⟨10 ^ 29, hbg.trans pw29⟩
  rw [← hbg]
  clear hbg
  obtain ⟨k0, hk0⟩ := hb0
  have all0 : ∀ x ∈ rngI 0 (Int.toNat 12) ++ [D.int bg, D.int (bg + 1), D.int 999, D.int 123456789], IsN x := fun x hx => by
    rcases List.mem_append.mp hx with h | h
    · unfold rngI at h
      obtain ⟨i, _, rfl⟩ := List.mem_map.mp h
      exact ⟨i, by rw [Int.zero_add]⟩
    · simp only [List.mem_cons, List.not_mem_nil, or_false] at h
      rcases h with rfl | rfl | rfl | rfl
      · exact ⟨k0, by rw [hk0]⟩
      · exact ⟨k0 + 1, by rw [hk0]; rfl⟩
      · exact ⟨999, rfl⟩
      · exact ⟨123456789, rfl⟩
  have len0 : (rngI 0 (Int.toNat 12) ++ [D.int bg, D.int (bg + 1), D.int 999, D.int 123456789]).length = 16 := by rw [List.length_append, rng_len]; rfl
  refine ⟨⟨by decide, by decide⟩, ⟨by decide, by decide, by decide⟩, ⟨by decide, by decide, by decide⟩, sizeL (by omega), ⟨by rw [rng_len]; exact sizeL (by decide), sizeL (by omega), by rw [len0]; exact sizeL (by omega)⟩, fun c hc => ?_⟩
  have hca := hp.is hc
  generalize rngI 0 (Int.toNat 12) ++ [D.int bg, D.int (bg + 1), D.int 999, D.int 123456789] = ys at all0 len0 ⊢
  have hk0' : Kept a cs (cset cs c (.lst ys)) := (Kept.refl hp).cset hca hc
  have hcc : cset cs c (.lst ys) c = some (.lst ys) := cset_same
  generalize cset cs c (.lst ys) = cs1 at hk0' hcc ⊢
  unfold nu1
  walk_at "w3"
  refine ⟨⟨by decide, by decide⟩, ?_⟩
  refine forL_inv (I := fun pre env c2 => (∃ o2, env = [some (.cell a), some (.cell c), o2]) ∧ (∃ xs, c2 c = some (.lst xs) ∧ (∀ x ∈ xs, IsN x) ∧ xs.length = 16 + 2 * pre.length) ∧ Kept a cs c2) ?_ ⟨⟨_, rfl⟩, ⟨ys, hcc, all0, len0⟩, hk0'⟩ ?_
  · rintro pre d post env c2 k hits ⟨⟨o2, rfl⟩, ⟨xs, hx, hxa, hxl⟩, hk2⟩ hK
    obtain ⟨_, hlt⟩ := rng_at hits
    have hlt : pre.length < 6 := hlt
    have hl : (pre ++ [d]).length = pre.length + 1 := by simp
    have e40 : (40 : Int) = ((40 : Nat) : Int) := rfl
    have e1000 : (1000 : Int) = ((1000 : Nat) : Int) := rfl
    unfold nu1b nu1c0
    walk_at "w3"
    rw [e40]
    refine ⟨⟨_, hx⟩, rfl, draw_ok (by decide) (by decide) hk2.pot fun v c3 hv k3 => ?_⟩
    have hx3 := k3.2 c _ hca hx
    rw [app_cell hx3]
    refine ⟨sizeL (by omega), ?_⟩
    have hk3 := (hk2.trans k3).cset (o := .lst (xs ++ [.int (v : Int)])) hca hc
    have hx4 : cset c3 c (.lst (xs ++ [.int (v : Int)])) c = some (.lst (xs ++ [.int (v : Int)])) := cset_same
    generalize cset c3 c (.lst (xs ++ [.int (v : Int)])) = c4 at hk3 hx4 ⊢
    unfold nu1c1
    walk_at "w3"
    obtain ⟨b20, h20⟩ : ∃ b20 : Int, b20 = (10 : Int) ^ (Int.toNat 20) := ⟨_, rfl⟩
    rw [← h20, e1000]
    have h20 : b20 = ((10 ^ 20 : Nat) : Int) := h20.trans pw20
    obtain ⟨t20, ht20⟩ : ∃ t20 : Nat, t20 = 10 ^ 20 := ⟨_, rfl⟩
    rw [← ht20] at h20
    refine ⟨⟨_, hx4⟩, ⟨by decide, by decide, by decide⟩, rfl, draw_ok (by decide) (by decide) hk3.pot fun u c5 hu k5 => ?_⟩
    generalize hzu : (u : Int) = zu
    walk_at "w3"
    have hm : mulOk b20 zu = true := by
      unfold mulOk
      rw [Bool.or_eq_true, Bool.and_eq_true, Bool.and_eq_true, decide_eq_true_eq, decide_eq_true_eq, decide_eq_true_eq, decide_eq_true_eq]
      exact .inr ⟨by omega, by omega⟩
    rw [pw6]
    refine ⟨hm, ⟨by decide, by decide, by decide⟩, rfl, draw_ok (by decide) (by decide) k5.pot fun z c6 hz k6 => ?_⟩
    have hx6 := k6.2 c _ hca (k5.2 c _ hca hx4)
    walk_at "w3"
    rw [app_cell hx6]
    have kk := (hk3.trans k5).trans k6
    refine ⟨sizeL (by rw [List.length_append, List.length_cons, List.length_nil]; omega), ?_⟩
    unfold nu1c2
    walk_at "w3"
    refine hK _ _ ⟨⟨_, rfl⟩, ⟨_, cset_same, fun x hx2 => ?_, ?_⟩, kk.cset hca hc⟩
    · simp only [List.mem_append, List.mem_cons, List.not_mem_nil, or_false] at hx2
      rcases hx2 with (h | rfl) | rfl
      · exact hxa x h
      · exact ⟨v, rfl⟩
      · refine ⟨t20 * u + z, ?_⟩
        rw [h20, ← hzu]
        simp
    · simp only [List.length_append, List.length_cons, List.length_nil]; omega
  · rintro env c2 ⟨⟨o2, rfl⟩, ⟨xs, hx, hxa, hxl⟩, hk2⟩
    rw [rng_len] at hxl
    have hxl : xs.length = 28 := hxl
    unfold nu2
    simp only [Dw.wpS, wpB, wpE, ownW, List.getElem?_cons_succ, List.getElem?_cons_zero, hx]
    exact q xs _ hxa (by omega) (hk2.cdel hca hc)
end K13
set_option Elab.async false
set_option linter.all false
set_option maxRecDepth 100000
set_option maxHeartbeats 1000000
namespace K13
open PySem PySem.Spec Dw L2
local macro_rules | `(tactic| walk_at "w3") => `(tactic| try simp only [wpB, Dw.wpS, wpE, wpG, wpGs, wpA, wpT, wpO, wpR, wpC, startE, List.map, List.length, List.replicate, List.cons_append, List.nil_append, List.getElem?_cons_zero, List.getElem?_cons_succ, List.set_cons_zero, List.set_cons_succ, Tgs.len, cmpW, bK_some, roK_ite, roK_some, subW, binW, fldW, mk_length, mk_add, okSz_iff, ite_prop, Nat.sub_zero, Nat.reduceAdd, Nat.reduceSub, true_and, and_true, if_tt, if_ff, dv_non, dv_bl, dv_int, dv_str, dv_lst, dv_rol, dv_tup, dv_ins, io_non, io_bl, io_int, io_str, io_lst, io_rol, io_tup, io_ins, bo_addi, bo_subi, bo_muli, bo_muls, bo_mull, bo_fdiv, bo_mod, bo_pow, bo_adds, bo_addl, co_eqi, co_nei, co_eqs, co_nes, co_eqb, co_neb, co_lt, co_le, co_gt, co_ge, co_is, co_isn, isNon_non, isNon_int, tr_bl, tr_non, tr_int, xi_lst, xi_tup, xi_rol, bp_lens, bp_lenl, bp_lent, bp_lenr, bp_abs, bp_max, bp_min, bp_int, bp_divmod, bp_repr, bp_isci, bp_isi, isi_ss, isi_ii, isi_bi, bm_asc, bm_alp, bm_low, bm_find, Option.map_some, Bool.not_true, Bool.not_false, lit0, mk_dec, dv_tw, io_tw, xi_tw0, xi_tw1, tw_fold, lit_abc, lit_abcdz, lit_d, lit_a, mL_coming, mL_again, m_in, tn2, tn3, dv_dic, io_dic, rep_mk, reduceCtorEq, false_implies, implies_true, forall_const, not_false_eq_true, not_true_eq_false, Decidable.not_not, and_self, true_implies, ls_str, ls_lst, items_lst, items_tup, items_rol, decide_eq_true_eq, ne_eq, Bool.and_eq_true, Bool.not_eq_true', decide_eq_false_iff_not, io_wd, dv_wd, m_eq, m_get, m_radd, p_b, p_l, p_b2, p_l2, lk_b, lk_l, i_b, i_l, c_m, mL_first, mL_behind, mL_told, isc_wd, eqW])
theorem tx_pre {b l : List Nat} (tb : Tx b) (tl : Tx l) (h0 : 0 < l.length) {k : Nat} : Tx (Wd.pre b l k) := fun c hc => by
  unfold Wd.pre at hc
  obtain ⟨n, _, rfl⟩ := List.mem_map.mp hc
  rcases Nat.lt_or_ge n b.length with h | h
  · rw [Wd.sq_lt h, show b.getD n 0 = b[n] from by simp [List.getD, List.getElem?_eq_getElem h]]
    exact tb _ (List.getElem_mem h)
  · rw [Wd.sq_ge h]
    have hm := Nat.mod_lt (n - b.length) h0
    unfold Wd.cyc
    rw [show l.getD ((n - b.length) % l.length) 0 = l[(n - b.length) % l.length] from by simp [List.getD, List.getElem?_eq_getElem hm]]
    exact tl _ (List.getElem_mem hm)
def pl0c5 : Sms := .nil
def pl0c4 : Sms := .cons (.ifs (.val (.cmp .Lt (.var 4) (.int 60))) (.cons (.asg (.nm 7) (.mcall "first" (.var 0) (.cons (.var 4) .nil))) (.cons (.ifs (.or (.val (.cmp .NotEq (.var 7) (.call 26 (.cons (.var 1) (.cons (.var 2) (.cons (.var 4) .nil)))))) (.one (.val (.cmp .NotEq (.mcallk "first" (.var 0) .nil ["number"] (.cons (.var 4) .nil) [0, 1]) (.var 7))))) (.cons (.ret (.bl false)) .nil) .nil) (.cons (.ifs (.or (.val (.cmp .NotEq (.bin .Add (.var 7) (.var 6)) (.var 0))) (.one (.val (.cmp .NotEq (.var 6) (.make 0 5 (.cons (.sub (.var 5) (.int 0)) (.cons (.sub (.var 5) (.int 1)) .nil))))))) (.cons (.ret (.bl false)) .nil) .nil) .nil))) .nil) pl0c5
def pl0c3 : Sms := .cons (.ifs (.or (.not (.val (.call 27 (.cons (.var 6) (.cons (.sub (.var 5) (.int 0)) (.cons (.sub (.var 5) (.int 1)) .nil)))))) (.or (.val (.cmp .NotEq (.var 6) (.mcallk "behind" (.var 0) .nil ["number"] (.cons (.var 4) .nil) [0, 1]))) (.one (.val (.cmp .NotEq (.sub (.var 6) (.int 0)) (.sub (.var 0) (.var 4))))))) (.cons (.ret (.bl false)) .nil) .nil) pl0c4
def pl0c2 : Sms := .cons (.asg (.nm 6) (.mcall "behind" (.var 0) (.cons (.var 4) .nil))) pl0c3
def pl0c1 : Sms := .cons (.asg (.nm 5) (.call 28 (.cons (.var 1) (.cons (.var 2) (.cons (.var 4) .nil))))) pl0c2
def pl0c0 : Sms := .cons (.ifs (.val (.cmp .NotEq (.sub (.var 0) (.var 4)) (.call 25 (.cons (.var 1) (.cons (.var 2) (.cons (.var 4) .nil)))))) (.cons (.ret (.bl false)) .nil) .nil) pl0c1
def pl0b : Sms := pl0c0
def pl2 : Sms := .nil
def pl1 : Sms := .cons (.ret (.bl true)) pl2
def pl0 : Sms := .cons (.for_ (.nm 4) (.it (.var 3)) pl0b) pl1
theorem pl_is : b30 = pl0 := rfl
theorem place_ok {n k : Nat} {B L b l : List Nat} (w : Wk B L) (s : Sk b l) (e : ∀ n, Wd.sq B L n = Wd.sq b l n) {o3 o5 o6 o7 : Option D} {cs : CS} {W : WT} {K : Kd}
    (q : ∀ o5 o6 o7, K.nx [some (wd B L), some (.str (mk b)), some (.str (mk l)), o3, some (.int (k : Int)), o5, o6, o7] cs) :
    wpB pg (phiN pg bodies (n + 6)) pl0b [some (wd B L), some (.str (mk b)), some (.str (mk l)), o3, some (.int (k : Int)), o5, o6, o7] cs W K := by
  have s1 := s.lb
  have s2 := s.ll
  have s3 := s.pos
  unfold pl0b pl0c0
  walk_at "w3"
  refine ⟨rfl, get_ok w ⟨rfl, sign_ok s3 (by omega) (by omega) ?_⟩⟩
  rw [e]
  walk_at "w3"
  unfold pl0c1
  walk_at "w3"
  refine ⟨rfl, rest_ok s fun b' l' s' e' => ?_⟩
  walk_at "w3"
  unfold pl0c2
  walk_at "w3"
  refine ⟨rfl, behind_ok w fun B2 L2 w2 e2 => ?_⟩
  walk_at "w3"
  unfold pl0c3
  walk_at "w3"
  have hE : ∀ n, Wd.sq B2 L2 n = Wd.sq b' l' n := fun n => by rw [e2, e', e]
  refine ⟨rfl, is_ok w2 s' hE ?_⟩
  walk_at "w3"
  refine ⟨rfl, (behind_ok (n := n + 2) w fun B3 L3 w3 e3 => ?_ : phiN pg bodies (n + 6) 15 [wd B L, .int (k : Int)] cs _ _)⟩
  obtain ⟨rfl, rfl⟩ := Wd.canon_unique w3.canon w2.canon fun n => (e3 n).trans (e2 n).symm
  walk_at "w3"
  refine ⟨rfl, rfl, eq_self ⟨_, rfl, fun h => absurd h (by decide), fun _ => ?_⟩⟩
  refine ⟨rfl, get_ok (k := 0) w2 ⟨rfl, get_ok w ?_⟩⟩
  rw [e2, Nat.zero_add]
  walk_at "w3"
  unfold pl0c4
  walk_at "w3"
  refine ⟨fun hk => ?_, fun hk => ?_⟩
  · refine ⟨rfl, first_ok w (by omega) ⟨rfl, start_ok s3 (by omega) (by omega) (by omega) ?_⟩⟩
    rw [same_pre e k]
    walk_at "w3"
    refine ⟨rfl, (first_ok (n := n + 2) w (by omega) ?_ : phiN pg bodies (n + 6) 14 [wd B L, .int (k : Int)] cs _ _)⟩
    rw [same_pre e k]
    walk_at "w3"
    obtain ⟨g1, _, g2, _⟩ := Wd.plain_found s'.pos w2.canon hE
    have hpl : (Wd.pre b l k).length = k := Wd.pre_length ..
    have t1 := s'.lb
    have t2 := s'.ll
    refine ⟨rfl, radd_ok w2 (tx_pre s.tb s.tl s3) (by omega) fun B4 L4 w4 e4 => ?_⟩
    obtain ⟨rfl, rfl⟩ := Wd.canon_unique w4.canon w.canon fun n => by
      rw [e4]
      rcases Nat.lt_or_ge n k with z | z
      · rw [Wd.sq_lt (by rw [List.length_append]; omega), Wd.getD_app1 (by omega), Wd.pre_getD z, e]
      · have := e2 (n - k)
        rw [Nat.sub_add_cancel z] at this
        have h6 := Wd.sq_drop (b := Wd.pre b l k ++ B3) (l := L3) (k := k) (by rw [List.length_append]; omega) (n - k)
        rw [List.drop_left' hpl, Nat.sub_add_cancel z] at h6
        rw [← this, h6]
    walk_at "w3"
    refine ⟨rfl, rfl, eq_self ⟨_, rfl, fun h => absurd h (by decide), fun _ => ?_⟩⟩
    refine make_ok s'.tb s'.tl s'.pos (by omega) (by omega) fun B5 L5 w5 e5 => ?_
    obtain ⟨rfl, rfl⟩ := Wd.canon_unique w5.canon w2.canon fun n => (e5 n).trans (hE n).symm
    walk_at "w3"
    refine ⟨rfl, rfl, eq_self ⟨_, rfl, fun h => absurd h (by decide), fun _ => ?_⟩⟩
    unfold pl0c5
    walk_at "w3"
    exact q _ _ _
  · unfold pl0c5
    walk_at "w3"
    exact q _ _ _
theorem places_ok {n : Nat} {B L b l : List Nat} {xs : List D} (w : Wk B L) (s : Sk b l) (e : ∀ n, Wd.sq B L n = Wd.sq b l n) (hx : ∀ x ∈ xs, ∃ k : Nat, x = .int (k : Int)) {cs : CS} {Q : D → Bool → CS → Prop} {E : Exn → CS → Prop} (q : Q (.bl true) false cs) :
    phiN pg bodies (n + 7) 30 [wd B L, .str (mk b), .str (mk l), .lst xs] cs Q E := by
  refine phi_at (b := (b30, 8)) rfl ?_
  show wpB _ _ b30 _ _ _ _
  rw [pl_is]
  unfold pl0
  walk_at "w3"
  refine forL_inv (I := fun _ env c => (∃ o4 o5 o6 o7, env = [some (wd B L), some (.str (mk b)), some (.str (mk l)), some (.lst xs), o4, o5, o6, o7]) ∧ c = cs) ?_ ⟨⟨_, _, _, _, rfl⟩, rfl⟩ ?_
  · rintro pre d post env c k hits ⟨⟨o4, o5, o6, o7, rfl⟩, rfl⟩ hK
    obtain ⟨m, rfl⟩ := hx d (by rw [hits]; simp)
    simp only [wpG, List.set_cons_succ, List.set_cons_zero]
    exact place_ok w s e fun p5 p6 p7 => hK _ _ ⟨⟨_, _, _, _, rfl⟩, rfl⟩
  · rintro env c ⟨⟨o4, o5, o6, o7, rfl⟩, rfl⟩
    unfold pl1
    walk_at "w3"
    exact q
end K13
set_option Elab.async false
set_option linter.all false
set_option maxRecDepth 100000
set_option maxHeartbeats 1000000
namespace K13
open PySem PySem.Spec Dw L2
local macro_rules | `(tactic| walk_at "w3") => `(tactic| try simp only [wpB, Dw.wpS, wpE, wpG, wpGs, wpA, wpT, wpO, wpR, wpC, startE, List.map, List.length, List.replicate, List.cons_append, List.nil_append, List.getElem?_cons_zero, List.getElem?_cons_succ, List.set_cons_zero, List.set_cons_succ, Tgs.len, cmpW, bK_some, roK_ite, roK_some, subW, binW, fldW, mk_length, mk_add, okSz_iff, ite_prop, Nat.sub_zero, Nat.reduceAdd, Nat.reduceSub, true_and, and_true, if_tt, if_ff, dv_non, dv_bl, dv_int, dv_str, dv_lst, dv_rol, dv_tup, dv_ins, io_non, io_bl, io_int, io_str, io_lst, io_rol, io_tup, io_ins, bo_addi, bo_subi, bo_muli, bo_muls, bo_mull, bo_fdiv, bo_mod, bo_pow, bo_adds, bo_addl, co_eqi, co_nei, co_eqs, co_nes, co_eqb, co_neb, co_lt, co_le, co_gt, co_ge, co_is, co_isn, isNon_non, isNon_int, tr_bl, tr_non, tr_int, xi_lst, xi_tup, xi_rol, bp_lens, bp_lenl, bp_lent, bp_lenr, bp_abs, bp_max, bp_min, bp_int, bp_divmod, bp_repr, bp_isci, bp_isi, isi_ss, isi_ii, isi_bi, bm_asc, bm_alp, bm_low, bm_find, Option.map_some, Bool.not_true, Bool.not_false, lit0, mk_dec, dv_tw, io_tw, xi_tw0, xi_tw1, tw_fold, lit_abc, lit_abcdz, lit_d, lit_a, mL_coming, mL_again, m_in, tn2, tn3, dv_dic, io_dic, rep_mk, reduceCtorEq, false_implies, implies_true, forall_const, not_false_eq_true, not_true_eq_false, Decidable.not_not, and_self, true_implies, ls_str, ls_lst, items_lst, items_tup, items_rol, decide_eq_true_eq, ne_eq, Bool.and_eq_true, Bool.not_eq_true', decide_eq_false_iff_not, io_wd, dv_wd, m_eq, m_get, m_radd, p_b, p_l, p_b2, p_l2, lk_b, lk_l, i_b, i_l, c_m, mL_first, mL_behind, mL_told, isc_wd, eqW])
theorem sq_behind (t b l : List Nat) (n : Nat) : Wd.sq (t ++ b) l (n + t.length) = Wd.sq b l n := by
  rw [← Wd.sq_drop (by rw [List.length_append]; omega), List.drop_left]
theorem sq_ahead {t b l : List Nat} {n : Nat} (h : n < t.length) : Wd.sq (t ++ b) l n = t.getD n 0 := by
  rw [Wd.sq_lt (by rw [List.length_append]; omega), Wd.getD_app1 h]
theorem sq_both {t b l b' l' : List Nat} (e : ∀ n, Wd.sq b l n = Wd.sq b' l' n) (n : Nat) : Wd.sq (t ++ b) l n = Wd.sq (t ++ b') l' n := by
  rcases Nat.lt_or_ge n t.length with h | h
  · rw [sq_ahead h, sq_ahead h]
  · rw [show n = (n - t.length) + t.length by omega, sq_behind, sq_behind, e]
theorem pre_ahead (t b l : List Nat) : Wd.pre (t ++ b) l t.length = t := by
  refine Wd.getD_ext (Wd.pre_length ..) fun n hn => ?_
  rw [Wd.pre_length] at hn
  rw [Wd.pre_getD hn, sq_ahead hn]
def ah0c4 : Sms := .nil
def ah0c3 : Sms := .cons (.ifs (.or (.val (.cmp .NotEq (.mcall "first" (.var 6) (.cons (.bi .len (.cons (.var 5) .nil)) .nil)) (.var 5))) (.one (.not (.val (.call 27 (.cons (.var 1) (.cons (.var 2) (.cons (.var 3) .nil)))))))) (.cons (.ret (.bl false)) .nil) .nil) ah0c4
def ah0c2 : Sms := .cons (.ifs (.or (.not (.val (.call 27 (.cons (.var 6) (.cons (.bin .Add (.var 5) (.var 2)) (.cons (.var 3) .nil)))))) (.or (.val (.cmp .NotEq (.mcall "behind" (.var 6) (.cons (.bi .len (.cons (.var 5) .nil)) .nil)) (.var 1))) (.one (.val (.cmp .NotEq (.var 6) (.make 0 5 (.cons (.bin .Add (.var 5) (.var 2)) (.cons (.var 3) .nil)))))))) (.cons (.ret (.bl false)) .nil) .nil) ah0c3
def ah0c1 : Sms := .cons (.asg (.nm 6) (.bin .Add (.var 5) (.var 1))) ah0c2
def ah0c0 : Sms := .cons (.asg (.nm 5) (.call 24 (.cons (.var 0) (.cons (.str "abc") (.cons (.int 8) .nil))))) ah0c1
def ah0b : Sms := ah0c0
def ah2 : Sms := .nil
def ah1 : Sms := .cons (.ret (.and (.cmp .Eq (.bin .Add (.str "") (.var 1)) (.var 1)) (.and (.cmp .Eq (.mcall "first" (.var 1) (.cons (.int 0) .nil)) (.str "")) (.one (.cmp .Eq (.mcall "behind" (.var 1) (.cons (.int 0) .nil)) (.var 1)))))) ah2
def ah0 : Sms := .cons (.for_ (.nm 4) (.rng1 (.int 4)) ah0b) ah1
theorem ah_is : b31 = ah0 := rfl
theorem ahead_one {n : Nat} {a : Addr} {B L b l : List Nat} (w : Wk B L) (s : Sk b l) (e : ∀ n, Wd.sq B L n = Wd.sq b l n) (hb : b.length ≤ 20) {o4 o5 o6 : Option D} {cs : CS} (hp : Pot cs a) {W : WT} {K : Kd}
    (q : ∀ o5 o6 cs', Kept a cs cs' → K.nx [some (.cell a), some (wd B L), some (.str (mk b)), some (.str (mk l)), o4, o5, o6] cs') :
    wpB pg (phiN pg bodies (n + 6)) ah0b [some (.cell a), some (wd B L), some (.str (mk b)), some (.str (mk l)), o4, o5, o6] cs W K := by
  have s1 := s.lb
  have s2 := s.ll
  have s3 := s.pos
  obtain ⟨f1, _, f2, _⟩ := Wd.plain_found s3 w.canon e
  have e8 : (8 : Int) = ((8 : Nat) : Int) := rfl
  unfold ah0b ah0c0
  walk_at "w3"
  rw [e8]
  refine ⟨rfl, text_ok (by decide) (by decide) (by decide) hp fun t cs1 ht hl k1 => ?_⟩
  have tt : Tx t := fun c hc => (tx_of (l := [97, 98, 99]) rfl) c (ht c hc)
  walk_at "w3"
  unfold ah0c1
  walk_at "w3"
  refine ⟨rfl, radd_ok w tt (by omega) fun B2 L2 w2 e2 => ?_⟩
  have e3 : ∀ n, Wd.sq B2 L2 n = Wd.sq (t ++ b) l n := fun n => (e2 n).trans (sq_both e n)
  have sk : Sk (t ++ b) l := ⟨tt.app s.tb, s.tl, s3, by rw [List.length_append]; omega, s2⟩
  walk_at "w3"
  unfold ah0c2
  walk_at "w3"
  refine ⟨sizeL (by omega), rfl, is_ok w2 sk e3 ?_⟩
  walk_at "w3"
  refine ⟨sizeL (by omega), rfl, behind_ok w2 fun B3 L3 w3 e4 => ?_⟩
  obtain ⟨rfl, rfl⟩ := Wd.canon_unique w3.canon w.canon fun n => by rw [e4, e2, sq_behind]
  walk_at "w3"
  refine ⟨rfl, rfl, eq_self ⟨_, rfl, fun h => absurd h (by decide), fun _ => ⟨sizeL (by omega), ?_⟩⟩⟩
  refine make_ok sk.tb sk.tl sk.pos (by have := sk.lb; omega) (by omega) fun B5 L5 w5 e5 => ?_
  obtain ⟨rfl, rfl⟩ := Wd.canon_unique w5.canon w2.canon fun n => (e5 n).trans (e3 n).symm
  walk_at "w3"
  refine ⟨rfl, rfl, eq_self ⟨_, rfl, fun h => absurd h (by decide), fun _ => ?_⟩⟩
  unfold ah0c3
  walk_at "w3"
  refine ⟨sizeL (by omega), rfl, first_ok w2 (by omega) ?_⟩
  rw [same_pre e3, pre_ahead]
  walk_at "w3"
  refine ⟨rfl, is_ok w s e ?_⟩
  walk_at "w3"
  unfold ah0c4
  walk_at "w3"
  exact q _ _ _ k1
theorem ahead_ok {n : Nat} {a : Addr} {B L b l : List Nat} (w : Wk B L) (s : Sk b l) (e : ∀ n, Wd.sq B L n = Wd.sq b l n) (hb : b.length ≤ 20) {cs : CS} (hp : Pot cs a) {Q : D → Bool → CS → Prop} {E : Exn → CS → Prop} (q : ∀ cs', Kept a cs cs' → Q (.bl true) false cs') :
    phiN pg bodies (n + 7) 31 [.cell a, wd B L, .str (mk b), .str (mk l)] cs Q E := by
  refine phi_at (b := (b31, 7)) rfl ?_
  show wpB _ _ b31 _ _ _ _
  rw [ah_is]
  unfold ah0
  walk_at "w3"
  refine ⟨⟨by decide, by decide⟩, ?_⟩
  refine forL_inv (I := fun _ env c => (∃ o4 o5 o6, env = [some (.cell a), some (wd B L), some (.str (mk b)), some (.str (mk l)), o4, o5, o6]) ∧ Kept a cs c) ?_ ⟨⟨_, _, _, rfl⟩, Kept.refl hp⟩ ?_
  · rintro pre d post env c k hits ⟨⟨o4, o5, o6, rfl⟩, hk⟩ hK
    simp only [wpG, List.set_cons_succ, List.set_cons_zero]
    exact ahead_one w s e hb hk.pot fun p5 p6 cs' k' => hK _ _ ⟨⟨_, _, _, rfl⟩, hk.trans k'⟩
  · rintro env c ⟨⟨o4, o5, o6, rfl⟩, hk⟩
    have s3 := s.pos
    have s1 := s.lb
    obtain ⟨f1, _, f2, _⟩ := Wd.plain_found s3 w.canon e
    unfold ah1
    walk_at "w3"
    refine ⟨rfl, radd_ok (t := []) w Tx.nil (by simp; omega) fun B2 L2 w2 e2 => ?_⟩
    obtain ⟨rfl, rfl⟩ := Wd.canon_unique w2.canon w.canon e2
    walk_at "w3"
    refine ⟨rfl, rfl, eq_self ⟨_, rfl, ?_⟩⟩
    refine ⟨rfl, first_ok (k := 0) w (by omega) ?_⟩
    walk_at "w3"
    refine ⟨rfl, behind_ok (k := 0) w fun B3 L3 w3 e3 => ?_⟩
    obtain ⟨rfl, rfl⟩ := Wd.canon_unique w3.canon w.canon e3
    walk_at "w3"
    exact ⟨rfl, rfl, eq_self ⟨_, rfl, q _ hk⟩⟩
end K13
set_option Elab.async false
set_option linter.all false
set_option maxRecDepth 100000
set_option maxHeartbeats 1000000
namespace K13
open PySem PySem.Spec Dw L2
local macro_rules | `(tactic| walk_at "w3") => `(tactic| try simp only [wpB, Dw.wpS, wpE, wpG, wpGs, wpA, wpT, wpO, wpR, wpC, startE, List.map, List.length, List.replicate, List.cons_append, List.nil_append, List.getElem?_cons_zero, List.getElem?_cons_succ, List.set_cons_zero, List.set_cons_succ, Tgs.len, cmpW, bK_some, roK_ite, roK_some, subW, binW, fldW, mk_length, mk_add, okSz_iff, ite_prop, Nat.sub_zero, Nat.reduceAdd, Nat.reduceSub, true_and, and_true, if_tt, if_ff, dv_non, dv_bl, dv_int, dv_str, dv_lst, dv_rol, dv_tup, dv_ins, io_non, io_bl, io_int, io_str, io_lst, io_rol, io_tup, io_ins, bo_addi, bo_subi, bo_muli, bo_muls, bo_mull, bo_fdiv, bo_mod, bo_pow, bo_adds, bo_addl, co_eqi, co_nei, co_eqs, co_nes, co_eqb, co_neb, co_lt, co_le, co_gt, co_ge, co_is, co_isn, isNon_non, isNon_int, tr_bl, tr_non, tr_int, xi_lst, xi_tup, xi_rol, bp_lens, bp_lenl, bp_lent, bp_lenr, bp_abs, bp_max, bp_min, bp_int, bp_divmod, bp_repr, bp_isci, bp_isi, isi_ss, isi_ii, isi_bi, bm_asc, bm_alp, bm_low, bm_find, Option.map_some, Bool.not_true, Bool.not_false, lit0, mk_dec, dv_tw, io_tw, xi_tw0, xi_tw1, tw_fold, lit_abc, lit_abcdz, lit_d, lit_a, mL_coming, mL_again, m_in, tn2, tn3, dv_dic, io_dic, rep_mk, reduceCtorEq, false_implies, implies_true, forall_const, not_false_eq_true, not_true_eq_false, Decidable.not_not, and_self, true_implies, ls_str, ls_lst, items_lst, items_tup, items_rol, decide_eq_true_eq, ne_eq, Bool.and_eq_true, Bool.not_eq_true', decide_eq_false_iff_not, io_wd, dv_wd, m_eq, m_get, m_radd, p_b, p_l, p_b2, p_l2, lk_b, lk_l, i_b, i_l, c_m, mL_first, mL_behind, mL_told, isc_wd, eqW])
theorem mem_sq {b l : List Nat} (hl : 0 < l.length) {c : Nat} : c ∈ b ++ l ↔ ∃ n, Wd.sq b l n = c := by
  constructor
  · intro h
    obtain ⟨i, hi, e⟩ := List.mem_iff_getElem.mp h
    refine ⟨i, ?_⟩
    have e2 : (b ++ l).getD i 0 = c := by simp only [List.getD, List.getElem?_eq_getElem hi, Option.getD_some, e]
    rcases Nat.lt_or_ge i b.length with z | z
    · rw [Wd.sq_lt z, ← Wd.getD_app1 (b := l) z, e2]
    · rw [Wd.sq_ge z, Wd.cyc_lt (by rw [List.length_append] at hi; omega), ← Wd.getD_app2 (a := b) z, e2]
  · rintro ⟨n, rfl⟩
    rcases Nat.lt_or_ge n b.length with z | z
    · rw [Wd.sq_lt z]
      exact List.mem_append_left _ (by simp [List.getD, List.getElem?_eq_getElem z])
    · rw [Wd.sq_ge z]
      have hm := Nat.mod_lt (n - b.length) hl
      unfold Wd.cyc
      exact List.mem_append_right _ (by simp [List.getD, List.getElem?_eq_getElem hm])
theorem mem_cyc {l : List Nat} (hl : 0 < l.length) {c : Nat} : c ∈ l ↔ ∃ n, Wd.cyc l n = c := by
  have := mem_sq (b := []) hl (c := c)
  rw [List.nil_append, Wd.sq_nil] at this
  exact this
theorem mem_late {b l : List Nat} (hl : 0 < l.length) {c : Nat} : c ∈ l ↔ ∀ N, ∃ n, N ≤ n ∧ Wd.sq b l n = c := by
  rw [mem_cyc hl]
  constructor
  · rintro ⟨n, rfl⟩ N
    have hN : N ≤ l.length * N := Nat.le_mul_of_pos_left _ hl
    refine ⟨b.length + (n + l.length * N), by omega, ?_⟩
    rw [Wd.sq_ge (by omega), Nat.add_sub_cancel_left, (Wd.cyc_per l).mul]
  · intro h
    obtain ⟨n, h1, h2⟩ := h b.length
    exact ⟨n - b.length, by rw [← Wd.sq_ge h1]; exact h2⟩
theorem items_mk {l : List Nat} : items (.str (mk l)) = some (l.map fun c => .str (mk [c])) := rfl
theorem bp_listt {l : List Nat} : biopP pg .list [.str (mk l)] = if l.length ≤ sizeLine then some (.lst (l.map fun c => .str (mk [c])), true) else none := by
  show (if okSz (mk l).length then some (D.lst (l.map fun c => .str (mk [c])), true) else none) = _
  rw [mk_length]
  by_cases h : l.length ≤ sizeLine
  · rw [if_pos h, if_pos (okSz_iff.mpr h)]
  · rw [if_neg h, if_neg (fun z => h (okSz_iff.mp z))]
theorem rising_ok {n : Nat} {m : List Nat} (tm : Tx m) (hm : m.length ≤ 1000) {cs : CS} {Q : D → Bool → CS → Prop} {E : Exn → CS → Prop} (q : ∀ ls : List Nat, ls.Pairwise (· < ·) → (∀ c, c ∈ ls ↔ c ∈ m) → Q (.str (mk ls)) false cs) :
    phiN pg bodies (n + 1) 32 [.str (mk m)] cs Q E := by
  refine phi_at (b := (b32, 1)) rfl ?_
  unfold b32
  simp only [wpB, Dw.wpS]
  refine lets_wpL (m := m) tm (fun R hR => ?_) q
  walk_at "w3"
  rw [bp_listt, if_pos (sizeL (by omega)), roK_some]
  exact hR
theorem rl_bl {k : Nat} {b : Bool} : RLen pg k 5 (.bl b) := rl_ss (t := if b then "True" else "False") rfl (by cases b <;> decide +kernel) fun n => rfl
theorem tx_cp {l : List Nat} (h : Tx l) : ∀ c ∈ l, c < 16 ^ 8 := fun c hc => by
  have := (h c hc).2
  have : (122 : Nat) < 16 ^ 8 := by decide
  omega
theorem blsD_false {α : Type} (xs : List α) : blsD (xs.map fun _ => D.bl false) = some (xs.map fun _ => false) := by
  induction xs with
  | nil => rfl
  | cons x r ih => simp only [List.map_cons, blsD, ih]; rfl
theorem any_false {α : Type} (xs : List α) : (xs.map fun _ => false).any id = false := by
  induction xs with
  | nil => rfl
  | cons x r ih => simp only [List.map_cons, List.any_cons, ih]; rfl
def le0c1 : Sms := .nil
def le0c0 : Sms := .cons (.ifs (.val (.cmp .NotEq (.bi .repr (.cons (.lst (.cons (.mcall "coming" (.var 0) .nil) (.cons (.mcall "again" (.var 0) .nil) .nil))) .nil)) (.bi .repr (.cons (.lst (.cons (.call 32 (.cons (.bin .Add (.var 1) (.var 2)) .nil)) (.cons (.call 32 (.cons (.var 2) .nil)) .nil))) .nil)))) (.cons (.ret (.bl false)) .nil) .nil) le0c1
def le0b : Sms := le0c0
def le5 : Sms := .nil
def le4 : Sms := .cons (.ret (.not (.bi .any (.cons (.lc [("_law_thing", 7)] (.nm 7) (.it (.var 5)) .none (.cmp .In (.var 7) (.var 0))) .nil)))) le5
def le3 : Sms := .cons (.asg (.nm 5) (.lst (.cons (.str "") (.cons (.str "ab") (.cons (.str "aa") (.cons (.bin .Add (.bin .Add (.var 1) (.var 2)) (.str "a")) (.cons .non (.cons (.int 0) (.cons (.bl true) (.cons (.lst (.cons (.str "a") .nil)) (.cons (.tup (.cons (.str "a") .nil)) (.cons .dic0 (.cons (.lst .nil) (.cons (.dic1 "a" 1) (.cons (.str "A") (.cons (.str " ") .nil)))))))))))))))) le4
def le2 : Sms := .cons (.ifs (.val (.cmp .NotEq (.bi .repr (.cons (.var 4) .nil)) (.bi .repr (.cons (.lc [("_law_sign_here", 6)] (.nm 6) (.it (.str "abcdz")) .none (.cmp .In (.var 6) (.bin .Add (.var 1) (.var 2)))) .nil)))) (.cons (.ret (.bl false)) .nil) .nil) le3
def le1 : Sms := .cons (.asg (.nm 4) (.lc [("_law_sign_here", 6)] (.nm 6) (.it (.str "abcdz")) .none (.cmp .In (.var 6) (.var 0)))) le2
def le0 : Sms := .cons (.for_ (.nm 3) (.rng1 (.int 2)) le0b) le1
theorem le_is : b33 = le0 := rfl
theorem letters3 {n : Nat} {B L b l : List Nat} {o3 o6 : Option D} {ds : List D} (hds : ds.length = 14) (hd : ∀ d ∈ ds, (∀ cs, insOf cs d = none) ∧ (∀ cs : CS, dv cs d = d) ∧ ∀ (n : Nat) (cs : CS) (Q : D → Bool → CS → Prop) (E : Exn → CS → Prop), Q (.bl false) false cs → phiN pg bodies (n + 1) 10 [wd B L, d] cs Q E) {o4 : Option D} {cs : CS} {Q : D → Bool → CS → Prop} {E : Exn → CS → Prop} (q : Q (.bl true) false cs) :
    wpB pg (phiN pg bodies (n + 1)) le4 [some (wd B L), some (.str (mk b)), some (.str (mk l)), o3, o4, some (.lst ds), o6, none] cs (fun x _ c => E x c) { nx := fun _ c => Q .non false c, rt := Q } := by
  unfold le4
  walk_at "w3"
  intro a ha
  refine forL_inv (I := fun pre env c2 => (∃ o7, env = [some (wd B L), some (.str (mk b)), some (.str (mk l)), o3, o4, some (.lst ds), o6, o7]) ∧ c2 = cset cs a (.lst (pre.map fun _ => .bl false))) ?_ ⟨⟨_, rfl⟩, rfl⟩ ?_
  · rintro pre d post env c2 k hits ⟨⟨o7, rfl⟩, rfl⟩ hK
    obtain ⟨i1, i2, i3⟩ := hd d (by rw [hits]; simp)
    have hp : pre.length < 14 := by rw [← hds, hits]; simp
    simp only [wipeE]
    walk_at "w3"
    unfold inW
    simp only [io_wd, m_in]
    refine ⟨rfl, i3 _ _ _ _ ⟨_, rfl, ?_⟩⟩
    rw [app_cell cset_same, cset_twice]
    refine ⟨by rw [List.length_map, sizeLine_eq]; omega, hK _ _ ⟨⟨_, rfl⟩, ?_⟩⟩
    simp only [List.map_append, List.map_cons, List.map_nil]
  · rintro env c2 ⟨⟨o7, rfl⟩, rfl⟩
    simp only [cset_same, bp_any, blsD_false, Option.map_some, roK_some, any_false, cdel_cset1 ha, wipeE]
    exact q
theorem nin {m : List Nat} (t : Tx m) {c : Nat} (h : c < 97) : decide (c ∈ m) = false := decide_eq_false fun z => by have := (t c z).1; omega
theorem letters2 {n : Nat} {B L b l : List Nat} (w : Wk B L) (s : Sk b l) {o3 o6 : Option D} {cs : CS} {Q : D → Bool → CS → Prop} {E : Exn → CS → Prop} (q : Q (.bl true) false cs) :
    wpB pg (phiN pg bodies (n + 1)) le2 [some (wd B L), some (.str (mk b)), some (.str (mk l)), o3, some (.lst ([97, 98, 99, 100, 122].map fun x => .bl (decide (x ∈ b ++ l)))), none, o6, none] cs (fun x _ c => E x c) { nx := fun _ c => Q .non false c, rt := Q } := by
  have s1 := s.lb
  have s2 := s.ll
  obtain ⟨sx, hsx⟩ := rl_top (d := .lst ([97, 98, 99, 100, 122].map fun x => .bl (decide (x ∈ b ++ l)))) (P := pg) (rl_lst (k := 7) (m := 5) fun x hx => by
    obtain ⟨y, _, rfl⟩ := List.mem_map.mp hx
    exact rl_bl) (by rw [List.length_map]; decide)
  have h5 : ([97, 98, 99, 100, 122].map fun x => D.bl (decide (x ∈ b ++ l))).length = 5 := rfl
  have go : ∀ bs : List D, bs = ([97, 98, 99, 100, 122].map fun x => D.bl (decide (x ∈ b ++ l))) → wpB pg (phiN pg bodies (n + 1)) le2 [some (wd B L), some (.str (mk b)), some (.str (mk l)), o3, some (.lst bs), none, o6, none] cs (fun x _ c => E x c) { nx := fun _ c => Q .non false c, rt := Q } := by
    intro bs hbs
    rw [← hbs] at hsx
    have h5 : bs.length = 5 := by rw [hbs]; rfl
    unfold le2
    walk_at "w3"
    rw [hsx]
    walk_at "w3"
    simp only [items_mk]
    intro a ha
    refine forL_inv (I := fun pre env c2 => (∃ o6, env = [some (wd B L), some (.str (mk b)), some (.str (mk l)), o3, some (.lst bs), none, o6, none]) ∧ ∃ cs0 : List Nat, pre = (cs0.map fun c => .str (mk [c])) ∧ c2 = cset cs a (.lst (cs0.map fun x => .bl (decide (x ∈ b ++ l))))) ?_ ⟨⟨_, rfl⟩, [], rfl, rfl⟩ ?_
    · rintro pre d post env c2 k hits ⟨⟨o6, rfl⟩, cs0, rfl, rfl⟩ hK
      obtain ⟨x, rfl⟩ : ∃ x, d = .str (mk [x]) := by
        have hm : d ∈ List.map (fun c => D.str (mk [c])) [97, 98, 99, 100, 122] := by rw [hits]; simp
        obtain ⟨x, _, e⟩ := List.mem_map.mp hm
        exact ⟨x, e.symm⟩
      have hlen : cs0.length < 5 := by
        have := congrArg List.length hits
        simp at this; omega
      simp only [wipeE]
      walk_at "w3"
      unfold inW
      simp only [io_str, dv_str, mk_add, co_in, bK_some]
      rw [app_cell cset_same, cset_twice]
      refine ⟨sizeL (by omega), by rw [List.length_map, sizeLine_eq]; omega, hK _ _ ⟨⟨_, rfl⟩, cs0 ++ [x], by simp, ?_⟩⟩
      simp only [List.map_append, List.map_cons, List.map_nil]
    · rintro env c2 ⟨⟨o6, rfl⟩, cs0, hcs, rfl⟩
      obtain rfl : [97, 98, 99, 100, 122] = cs0 := by
        have := congrArg (List.map fun d : D => match d with | .str x => x.cps.toList.headD 0 | _ => 0) hcs
        simpa [List.map_map, Function.comp_def, mk] using this
      simp only [cset_same, cdel_cset1 ha, ← hbs, wipeE, List.set_cons_zero, List.set_cons_succ]
      walk_at "w3"
      rw [hsx]
      walk_at "w3"
      unfold le3
      walk_at "w3"
      refine ⟨sizeL (by omega), sizeL (by rw [List.length_append]; omega), sizeL (by decide), sizeL (by decide), sizeL (by decide), sizeL (by decide), ?_⟩
      refine letters3 rfl (fun d hd => ?_) q
      simp only [List.mem_cons, List.not_mem_nil, or_false] at hd
      have tbl := w.tb.app w.tl
      rcases hd with rfl | rfl | rfl | rfl | rfl | rfl | rfl | rfl | rfl | rfl | rfl | rfl | rfl | rfl
      all_goals refine ⟨fun _ => rfl, fun _ => rfl, fun n cs Q E q => ?_⟩
      · exact in_odd rfl (.inr ⟨_, rfl, by decide +kernel, by decide +kernel⟩) q
      · exact in_odd rfl (.inr ⟨_, rfl, by decide +kernel, by decide +kernel⟩) q
      · exact in_odd rfl (.inr ⟨_, rfl, by decide +kernel, by decide +kernel⟩) q
      · exact in_odd rfl (.inr ⟨_, rfl, by rw [mk_length]; simp; omega, by rw [mk_length]; have := s.pos; simp; omega⟩) q
      · exact in_odd rfl (.inl rfl) q
      · exact in_odd rfl (.inl rfl) q
      · exact in_odd rfl (.inl rfl) q
      · exact in_odd rfl (.inl rfl) q
      · exact in_odd rfl (.inl rfl) q
      · exact in_odd rfl (.inl rfl) q
      · exact in_odd rfl (.inl rfl) q
      · exact in_odd rfl (.inl rfl) q
      · rw [show Str.ofString "A" = mk [65] by decide +kernel]
        refine in_ok w ?_
        rw [nin tbl (by decide)]
        exact q
      · rw [show Str.ofString " " = mk [32] by decide +kernel]
        refine in_ok w ?_
        rw [nin tbl (by decide)]
        exact q
  exact go _ rfl
theorem letters_ok {n : Nat} {B L b l : List Nat} (w : Wk B L) (s : Sk b l) (e : ∀ n, Wd.sq B L n = Wd.sq b l n) {cs : CS} {Q : D → Bool → CS → Prop} {E : Exn → CS → Prop} (q : Q (.bl true) false cs) :
    phiN pg bodies (n + 2) 33 [wd B L, .str (mk b), .str (mk l)] cs Q E := by
  refine phi_at (b := (b33, 8)) rfl ?_
  show wpB _ _ b33 _ _ _ _
  have s1 := s.lb
  have s2 := s.ll
  have s3 := s.pos
  have mem1 : ∀ c, c ∈ B ++ L ↔ c ∈ b ++ l := fun c => by rw [mem_sq w.pos, mem_sq s3]; exact ⟨fun ⟨n, h⟩ => ⟨n, by rw [← e]; exact h⟩, fun ⟨n, h⟩ => ⟨n, by rw [e]; exact h⟩⟩
  have mem2 : ∀ c, c ∈ L ↔ c ∈ l := fun c => by rw [mem_late (b := B) w.pos, mem_late (b := b) s3]; simp only [e]
  rw [le_is]
  unfold le0
  walk_at "w3"
  refine ⟨⟨by decide, by decide⟩, ?_⟩
  have h1 := w.lb
  have h2 := w.ll
  refine forL_inv (I := fun _ env c => (∃ o3, env = [some (wd B L), some (.str (mk b)), some (.str (mk l)), o3, none, none, none, none]) ∧ c = cs) ?_ ⟨⟨_, rfl⟩, rfl⟩ ?_
  · rintro pre d post env c k hits ⟨⟨o3, rfl⟩, rfl⟩ hK
    unfold le0b le0c0
    walk_at "w3"
    refine ⟨rfl, coming_ok w fun ls p1 m1 => ?_⟩
    walk_at "w3"
    refine ⟨rfl, again_ok w fun ms p2 m2 => ?_⟩
    have r1 : ∀ {ls : List Nat}, (∀ c ∈ ls, c < 16 ^ 8) → ls.length ≤ 123 → RLen pg 7 2000 (.str (mk ls)) := fun {ls} ht hl => rl_mono (rl_str ht) (by omega)
    have tls : Tx ls := fun c hc => (w.tb.app w.tl) c ((m1 c).mp hc)
    have tms : Tx ms := fun c hc => w.tl c ((m2 c).mp hc)
    have l1 : ls.length ≤ 123 := rising_len p1 fun c hc => by have := tls c hc; omega
    have l2 : ms.length ≤ 123 := rising_len p2 fun c hc => by have := tms c hc; omega
    obtain ⟨sx, hsx⟩ := rl_top (d := .lst [.str (mk ls), .str (mk ms)]) (P := pg) (rl_lst (k := 7) (m := 2000) fun x hx => by
      simp only [List.mem_cons, List.not_mem_nil, or_false] at hx
      rcases hx with rfl | rfl
      · exact r1 (tx_cp tls) l1
      · exact r1 (tx_cp tms) l2) (show (2000 + 2) * 2 + 2 ≤ 16777216 by decide)
    walk_at "w3"
    rw [hsx]
    refine ⟨sizeL (by omega), ?_⟩
    simp only [roK_some]
    refine ⟨sizeL (by omega), rfl, rising_ok (s.tb.app s.tl) (by rw [List.length_append]; omega) fun ls2 q1 n1 => ?_⟩
    obtain rfl : ls2 = ls := rising_unique q1 p1 fun c => by rw [n1, m1, mem1]
    refine ⟨rfl, rising_ok s.tl (by omega) fun ms2 q2 n2 => ?_⟩
    obtain rfl : ms2 = ms := rising_unique q2 p2 fun c => by rw [n2, m2, mem2]
    rw [hsx]
    walk_at "w3"
    refine ⟨sizeL (by omega), ?_⟩
    unfold le0c1
    walk_at "w3"
    exact hK _ _ ⟨⟨_, rfl⟩, rfl⟩
  · rintro env c ⟨⟨o3, rfl⟩, rfl⟩
    unfold le1
    walk_at "w3"
    simp only [items_mk]
    intro a ha
    refine forL_inv (I := fun pre env c2 => (∃ o6, env = [some (wd B L), some (.str (mk b)), some (.str (mk l)), o3, none, none, o6, none]) ∧ ∃ cs0 : List Nat, pre = (cs0.map fun c => .str (mk [c])) ∧ c2 = cset c a (.lst (cs0.map fun x => .bl (decide (x ∈ b ++ l))))) ?_ ⟨⟨_, rfl⟩, [], rfl, rfl⟩ ?_
    · rintro pre d post env c2 k hits ⟨⟨o6, rfl⟩, cs0, rfl, rfl⟩ hK
      obtain ⟨x, rfl⟩ : ∃ x, d = .str (mk [x]) := by
        have hm : d ∈ List.map (fun c => D.str (mk [c])) [97, 98, 99, 100, 122] := by rw [hits]; simp
        obtain ⟨x, _, e⟩ := List.mem_map.mp hm
        exact ⟨x, e.symm⟩
      have hlen : cs0.length < 5 := by
        have := congrArg List.length hits
        simp at this; omega
      simp only [wipeE]
      walk_at "w3"
      unfold inW
      simp only [io_wd, m_in]
      refine ⟨rfl, in_ok w ⟨_, rfl, ?_⟩⟩
      rw [app_cell cset_same, cset_twice]
      refine ⟨by rw [List.length_map, sizeLine_eq]; omega, hK _ _ ⟨⟨_, rfl⟩, cs0 ++ [x], by simp, ?_⟩⟩
      simp only [mem1, List.map_append, List.map_cons, List.map_nil]
    · rintro env c2 ⟨⟨o6, rfl⟩, cs0, hcs, rfl⟩
      obtain rfl : [97, 98, 99, 100, 122] = cs0 := by
        have := congrArg (List.map fun d : D => match d with | .str x => x.cps.toList.headD 0 | _ => 0) hcs
        simpa [List.map_map, Function.comp_def, mk] using this
      simp only [cset_same, cdel_cset1 ha, wipeE, List.set_cons_zero, List.set_cons_succ]
      exact letters2 w s q
end K13
set_option Elab.async false
set_option linter.all false
set_option maxRecDepth 100000
set_option maxHeartbeats 1000000
namespace K13
open PySem PySem.Spec Dw L2
local macro_rules | `(tactic| walk_at "wp") => `(tactic| try simp only [wpB, Dw.wpS, wpE, wpG, wpGs, wpA, wpT, wpO, wpR, wpC, startE, List.map, List.length, List.replicate, List.cons_append, List.nil_append, List.getElem?_cons_zero, List.getElem?_cons_succ, List.set_cons_zero, List.set_cons_succ, Tgs.len, cmpW, bK_some, roK_ite, roK_some, subW, binW, fldW, mk_length, mk_add, okSz_iff, ite_prop, Nat.sub_zero, Nat.reduceAdd, Nat.reduceSub, true_and, and_true, if_tt, if_ff,
  dv_non, dv_bl, dv_int, dv_str, dv_lst, dv_rol, dv_tup, dv_ins, io_non, io_bl, io_int, io_str, io_lst, io_rol, io_tup, io_ins, bo_addi, bo_subi, bo_muli, bo_muls, bo_mull, bo_fdiv, bo_mod, bo_pow, bo_adds, bo_addl, co_eqi, co_nei, co_eqs, co_nes, co_eqb, co_neb, co_lt, co_le, co_gt, co_ge, co_is, co_isn, isNon_non, isNon_int, tr_bl, tr_non, tr_int, xi_lst, xi_tup, xi_rol,
  bp_lens, bp_lenl, bp_lent, bp_lenr, bp_abs, bp_max, bp_min, bp_int, bp_divmod, bp_repr, bp_isci, bp_isi, isi_ss, isi_ii, isi_bi, bm_asc, bm_alp, bm_low, bm_find, Option.map_some, Bool.not_true, Bool.not_false, lit0, mk_dec, reduceCtorEq, false_implies, implies_true, forall_const, not_false_eq_true, not_true_eq_false, Decidable.not_not, and_self, true_implies, ls_str, ls_lst, items_lst, items_tup, items_rol, decide_eq_true_eq, ne_eq, Bool.and_eq_true, Bool.not_eq_true', decide_eq_false_iff_not])
local macro_rules | `(tactic| walk_at "w3") => `(tactic| try simp only [wpB, Dw.wpS, wpE, wpG, wpGs, wpA, wpT, wpO, wpR, wpC, startE, List.map, List.length, List.replicate, List.cons_append, List.nil_append, List.getElem?_cons_zero, List.getElem?_cons_succ, List.set_cons_zero, List.set_cons_succ, Tgs.len, cmpW, bK_some, roK_ite, roK_some, subW, binW, fldW, mk_length, mk_add, okSz_iff, ite_prop, Nat.sub_zero, Nat.reduceAdd, Nat.reduceSub, true_and, and_true, if_tt, if_ff, dv_non, dv_bl, dv_int, dv_str, dv_lst, dv_rol, dv_tup, dv_ins, io_non, io_bl, io_int, io_str, io_lst, io_rol, io_tup, io_ins, bo_addi, bo_subi, bo_muli, bo_muls, bo_mull, bo_fdiv, bo_mod, bo_pow, bo_adds, bo_addl, co_eqi, co_nei, co_eqs, co_nes, co_eqb, co_neb, co_lt, co_le, co_gt, co_ge, co_is, co_isn, isNon_non, isNon_int, tr_bl, tr_non, tr_int, xi_lst, xi_tup, xi_rol, bp_lens, bp_lenl, bp_lent, bp_lenr, bp_abs, bp_max, bp_min, bp_int, bp_divmod, bp_repr, bp_isci, bp_isi, isi_ss, isi_ii, isi_bi, bm_asc, bm_alp, bm_low, bm_find, Option.map_some, Bool.not_true, Bool.not_false, lit0, mk_dec, dv_tw, io_tw, xi_tw0, xi_tw1, tw_fold, lit_abc, lit_abcdz, lit_d, lit_a, mL_coming, mL_again, m_in, tn2, tn3, dv_dic, io_dic, rep_mk, reduceCtorEq, false_implies, implies_true, forall_const, not_false_eq_true, not_true_eq_false, Decidable.not_not, and_self, true_implies, ls_str, ls_lst, items_lst, items_tup, items_rol, decide_eq_true_eq, ne_eq, Bool.and_eq_true, Bool.not_eq_true', decide_eq_false_iff_not, io_wd, dv_wd, m_eq, m_get, m_radd, p_b, p_l, p_b2, p_l2, lk_b, lk_l, i_b, i_l, c_m, mL_first, mL_behind, mL_told, isc_wd, eqW])
theorem rl_wd {b l : List Nat} (w : Wk b l) : ∃ t, reprTop pg (wd b l) = some (.str t, false) := by
  obtain ⟨t1, h1, g1⟩ := rl_str (P := pg) (k := 7) (tx_cp w.tb)
  obtain ⟨t2, h2, g2⟩ := rl_str (P := pg) (k := 7) (tx_cp w.tl)
  have hb := w.lb
  have hl := w.ll
  have e : reprN pg 8 (wd b l) = some (((((Str.empty ++ "Word(") ++ t1) ++ ", ") ++ t2) ++ ")") := by
    show reprI (reprN pg 7) [("_begin", .str (mk b)), ("_lap", .str (mk l))] Str.empty [.lit "Word(", .fld "_begin", .lit ", ", .fld "_lap", .lit ")"] = _
    simp only [reprI, lk_b, lk_l, Option.bind_some, h1, h2]
  refine rl_top (m := 200000) ⟨_, e, ?_⟩ (by decide)
  simp only [strLen_append]
  have e1 : (("Word(" : String) : Str).length = 5 := by decide +kernel
  have e2 : ((", " : String) : Str).length = 2 := by decide +kernel
  have e3 : ((")" : String) : Str).length = 1 := by decide +kernel
  have e4 : (Str.empty).length = 0 := by decide +kernel
  omega
theorem wpE_bin {P : Pg} {Φ : PhT} {op : Operator} {x y : Ex} {env : Dw.Env} {cs : CS} {W : WT} {Q : QT} : wpE P Φ (.bin op x y) env cs W Q = wpE P Φ x env cs W fun d1 _ env1 cs1 => wpE P Φ y env1 cs1 W fun d2 _ env2 cs2 => binW P Φ op d1 d2 env2 cs2 W Q := by simp only [wpE]
theorem bw_addi {P : Pg} {Φ : PhT} {i j : Int} {env : Dw.Env} {cs : CS} {W : WT} {Q : QT} : binW P Φ .Add (.int i) (.int j) env cs W Q = Q (.int (i + j)) false env cs := rfl
def rt8 : Sms := .nil
def rt7 : Sms := .cons (.ret (.and (.cmp .Eq (.bi .repr (.cons (.var 2) .nil)) (.var 3)) (.one (.call 27 (.cons (.var 2) (.cons (.var 4) (.cons (.var 5) .nil))))))) rt8
def rt6 : Sms := .cons (.ifs (.or (.not (.val (.call 31 (.cons (.var 0) (.cons (.var 2) (.cons (.var 4) (.cons (.var 5) .nil))))))) (.one (.not (.val (.call 33 (.cons (.var 2) (.cons (.var 4) (.cons (.var 5) .nil)))))))) (.cons (.ret (.bl false)) .nil) .nil) rt7
def rt5 : Sms := .cons (.ifs (.or (.not (.val (.call 27 (.cons (.var 2) (.cons (.var 4) (.cons (.var 5) .nil)))))) (.one (.not (.val (.call 30 (.cons (.var 2) (.cons (.var 4) (.cons (.var 5) (.cons (.call 29 (.cons (.var 0) .nil)) .nil))))))))) (.cons (.ret (.bl false)) .nil) .nil) rt6
def rt4 : Sms := .cons (.asg (.nm 3) (.bi .repr (.cons (.var 2) .nil))) rt5
def rt3 : Sms := .cons (.asg (.nm 2) (.make 0 5 (.cons (.var 4) (.cons (.var 5) .nil)))) rt4
def rt2 : Sms := .cons (.ifs (.val (.cmp .Eq (.call 22 (.cons (.var 0) (.cons (.int 4) .nil))) (.int 0))) (.cons (.asg (.nm 4) (.bin .Add (.var 4) (.str "d"))) (.cons (.asg (.nm 5) (.bin .Mult (.call 23 (.cons (.var 0) (.cons (.lc [("_law_sign_here", 6)] (.nm 6) (.it (.var 1)) .none (.var 6)) .nil))) (.bin .Add (.int 1) (.call 22 (.cons (.var 0) (.cons (.int 3) .nil)))))) (.cons (.asg (.nm 1) (.bin .Add (.str "d") (.slc (.var 5) .none (.some (.int 1))))) (.cons (.asg (.nm 4) (.bm .join (.str "") (.cons (.lc [("_law_sign_here", 6)] (.nm 6) (.it (.var 4)) (.some (.val (.cmp .In (.var 6) (.var 1)))) (.var 6)) .nil))) .nil)))) .nil) rt3
def rt1 : Sms := .cons (.par 4 5 (.call 24 (.cons (.var 0) (.cons (.var 1) (.cons (.int 9) .nil)))) (.bin .Add (.call 24 (.cons (.var 0) (.cons (.var 1) (.cons (.int 6) .nil)))) (.call 23 (.cons (.var 0) (.cons (.var 1) .nil))))) rt2
def rt0 : Sms := .cons (.asg (.nm 1) (.slc (.slc (.str "abc") (.some (.call 22 (.cons (.var 0) (.cons (.int 2) .nil)))) .none) .none (.some (.bin .Add (.int 1) (.call 22 (.cons (.var 0) (.cons (.int 3) .nil))))))) rt1
theorem rt_is : b34 = rt0 := rfl
theorem right3 {n : Nat} {a : Addr} {b l : List Nat} {o1 o6 : Option D} (s : Sk b l) (hb : b.length ≤ 20) {cs0 cs : CS} (hk : Kept a cs0 cs) {Q : D → Bool → CS → Prop} {E : Exn → CS → Prop} (q : ∀ cs', Kept a cs0 cs' → Q (.bl true) false cs') :
    wpB pg (phiN pg bodies (n + 8)) rt3 [some (.cell a), o1, none, none, some (.str (mk b)), some (.str (mk l)), o6] cs (fun x _ c => E x c) { nx := fun _ c => Q .non false c, rt := Q } := by
  have s1 := s.lb
  have s2 := s.ll
  have s3 := s.pos
  unfold rt3
  walk_at "w3"
  refine make_ok s.tb s.tl s3 (by omega) (by omega) fun B L w e => ?_
  obtain ⟨f1, _, f2, _⟩ := Wd.plain_found s3 w.canon e
  obtain ⟨sh, hsh⟩ := rl_wd w
  walk_at "w3"
  unfold rt4
  walk_at "w3"
  rw [hsh]
  walk_at "w3"
  unfold rt5
  walk_at "w3"
  refine ⟨rfl, is_ok w s e ?_⟩
  walk_at "w3"
  refine ⟨rfl, numbers_ok hk.pot fun ks cs1 hks _ k1 => ⟨rfl, places_ok w s e hks ?_⟩⟩
  walk_at "w3"
  unfold rt6
  walk_at "w3"
  refine ⟨rfl, ahead_ok w s e hb k1.pot fun cs2 k2 => ?_⟩
  walk_at "w3"
  refine ⟨rfl, letters_ok w s e ?_⟩
  walk_at "w3"
  unfold rt7
  walk_at "w3"
  rw [hsh]
  walk_at "w3"
  refine ⟨rfl, is_ok w s e ?_⟩
  exact q _ ((hk.trans k1).trans k2)
def rtE : Sms := .nil
def rtD : Sms := .cons (.asg (.nm 4) (.bm .join (.str "") (.cons (.lc [("_law_sign_here", 6)] (.nm 6) (.it (.var 4)) (.some (.val (.cmp .In (.var 6) (.var 1)))) (.var 6)) .nil))) rtE
def rtC : Sms := .cons (.asg (.nm 1) (.bin .Add (.str "d") (.slc (.var 5) .none (.some (.int 1))))) rtD
def rtB : Sms := .cons (.asg (.nm 5) (.bin .Mult (.call 23 (.cons (.var 0) (.cons (.lc [("_law_sign_here", 6)] (.nm 6) (.it (.var 1)) .none (.var 6)) .nil))) (.bin .Add (.int 1) (.call 22 (.cons (.var 0) (.cons (.int 3) .nil)))))) rtC
def rtA : Sms := .cons (.asg (.nm 4) (.bin .Add (.var 4) (.str "d"))) rtB
theorem rt2_is : rt2 = .cons (.ifs (.val (.cmp .Eq (.call 22 (.cons (.var 0) (.cons (.int 4) .nil))) (.int 0))) rtA .nil) rt3 := rfl
theorem rightD {n : Nat} {sg b l : List Nat} {o0 : Option D} (hb : b.length ≤ 10) {cs : CS} {W : WT} {K : Kd}
    (q : ∀ b' o6, (∀ c ∈ b', c ∈ b) → b'.length ≤ 10 → K.nx [o0, some (.str (mk sg)), none, none, some (.str (mk b')), some (.str (mk l)), o6] cs) :
    wpB pg (phiN pg bodies n) rtD [o0, some (.str (mk sg)), none, none, some (.str (mk b)), some (.str (mk l)), none] cs W K := by
  unfold rtD
  walk_at "w3"
  simp only [items_mk]
  intro c hc
  refine forL_inv (I := fun pre env c2 => (∃ o6, env = [o0, some (.str (mk sg)), none, none, some (.str (mk b)), some (.str (mk l)), o6]) ∧ ∃ b1 : List Nat, (∀ c ∈ b1, c ∈ b) ∧ b1.length ≤ pre.length ∧ c2 = cset cs c (.lst (b1.map fun c => .str (mk [c])))) ?_ ⟨⟨_, rfl⟩, [], (fun c h => by cases h), Nat.le_refl _, rfl⟩ ?_
  · rintro pre d post env c2 k hits ⟨⟨o6, rfl⟩, b1, h1, h2, rfl⟩ hK
    obtain ⟨x, hx, rfl⟩ : ∃ x, x ∈ b ∧ d = .str (mk [x]) := by
      have hm : d ∈ b.map fun c => D.str (mk [c]) := by rw [hits]; simp
      obtain ⟨x, hx, e⟩ := List.mem_map.mp hm
      exact ⟨x, hx, e.symm⟩
    have hlen : pre.length < 10 := by
      have := congrArg List.length hits
      simp at this; omega
    simp only [wipeE, List.set_cons_zero, List.set_cons_succ, List.getElem?_cons_zero, List.getElem?_cons_succ]
    unfold inW
    simp only [io_str, dv_str, co_in, bK_some]
    refine ⟨fun _ => ?_, fun _ => ?_⟩
    · simp only [List.getElem?_cons_zero, List.getElem?_cons_succ]
      rw [app_cell cset_same, cset_twice]
      refine ⟨by rw [List.length_map, sizeLine_eq]; omega, hK _ _ ⟨⟨_, rfl⟩, b1 ++ [x], fun c hc => ?_, by simp; omega, by simp⟩⟩
      rcases List.mem_append.mp hc with h | h
      · exact h1 c h
      · rw [List.mem_singleton.mp h]; exact hx
    · exact hK _ _ ⟨⟨_, rfl⟩, b1, h1, by simp; omega, rfl⟩
  · rintro env c2 ⟨⟨o6, rfl⟩, b1, h1, h2, rfl⟩
    rw [List.length_map] at h2
    have hj : bmop .join (.str (mk [])) [.lst (b1.map fun c => D.str (mk [c]))] = some (.str (mk b1), false) := bm_join (by omega)
    simp only [cset_same, cdel_cset1 hc, wipeE, List.set_cons_zero, List.set_cons_succ, hj, roK_some]
    unfold rtE
    walk_at "w3"
    exact q b1 _ h1 (by omega)
theorem rightC {n x u : Nat} {sg b : List Nat} {o0 : Option D} (hb : b.length ≤ 10) (hu : u < 3) {cs : CS} {W : WT} {K : Kd}
    (q : ∀ sg' b' o6, (∀ c ∈ b', c ∈ b) → b'.length ≤ 10 → K.nx [o0, some (.str (mk sg')), none, none, some (.str (mk b')), some (.str (mk (rep [x] (1 + u)))), o6] cs) :
    wpB pg (phiN pg bodies n) rtC [o0, some (.str (mk sg)), none, none, some (.str (mk b)), some (.str (mk (rep [x] (1 + u)))), none] cs W K := by
  have hl : (rep [x] (1 + u)).length = (1 + u) * 1 := rep_length _ _
  have e1 : (1 : Int) = ((1 : Nat) : Int) := rfl
  unfold rtC
  walk_at "w3"
  rw [e1, cut_to]
  walk_at "w3"
  have hl2 : ((rep [x] (1 + u)).take 1).length ≤ 1 := by rw [List.length_take]; omega
  refine ⟨sizeL (by omega), sizeL (by omega), ?_⟩
  exact rightD hb fun b' o6 h1 h2 => q _ b' o6 h1 h2
theorem rightB {n : Nat} {a : Addr} {sg b : List Nat} {o5 : Option D} (ls : 0 < sg.length) (ls2 : sg.length < 1000) (hb : b.length ≤ 10) {cs0 cs : CS} (hk : Kept a cs0 cs) {W : WT} {K : Kd}
    (q : ∀ sg' b' x u o6 cs', x ∈ sg → u < 3 → Kept a cs0 cs' → (∀ c ∈ b', c ∈ b) → b'.length ≤ 10 → K.nx [some (.cell a), some (.str (mk sg')), none, none, some (.str (mk b')), some (.str (mk (rep [x] (1 + u)))), o6] cs') :
    wpB pg (phiN pg bodies (n + 8)) rtB [some (.cell a), some (.str (mk sg)), none, none, some (.str (mk b)), o5, none] cs W K := by
  have e3 : (3 : Int) = ((3 : Nat) : Int) := rfl
  unfold rtB
  simp only [wpB, Dw.wpS, wpE, wpA, wpG, wpGs, wpC, startE, List.getElem?_cons_zero, List.getElem?_cons_succ, List.set_cons_zero, List.set_cons_succ, List.length, List.map, dv_str, wpR, dv_str, if_tt, ite_true, if_true]

  simp only [items_mk]
  intro c hc
  obtain ⟨hca, hc0⟩ := hk.none hc
  refine forL_inv (I := fun pre env c2 => (∃ o6, env = [some (.cell a), some (.str (mk sg)), none, none, some (.str (mk b)), o5, o6]) ∧ c2 = cset cs c (.lst pre)) ?_ ⟨⟨_, rfl⟩, rfl⟩ ?_
  · rintro pre d post env c2 k hits ⟨⟨o6, rfl⟩, rfl⟩ hK
    have hlen : pre.length < 1000 := by
      have := congrArg List.length hits
      simp at this; omega
    simp only [wipeE, List.set_cons_zero, List.set_cons_succ, List.getElem?_cons_zero, List.getElem?_cons_succ]
    rw [app_cell cset_same, cset_twice]
    exact ⟨by rw [sizeLine_eq]; omega, hK _ _ ⟨⟨_, rfl⟩, rfl⟩⟩
  · rintro env c2 ⟨⟨o6, rfl⟩, rfl⟩
    simp only [cset_same, cdel_cset1 hc, wipeE, List.set_cons_zero, List.set_cons_succ, List.getElem?_cons_zero, List.getElem?_cons_succ]
    refine ⟨rfl, pick_lst_ok (by rw [List.length_map]; omega) (by rw [List.length_map]; omega) hk.pot fun d cs2 hd k2 => ?_⟩
    obtain ⟨x, hx, rfl⟩ := List.mem_map.mp hd
    rw [e3]
    refine ⟨rfl, draw_ok (by decide) (by decide) (hk.trans k2).pot fun u cs3 hu k3 => ?_⟩
    have fin := fun {W : WT} => rightC (n := n + 8) (x := x) (u := u) (sg := sg) (b := b) (o0 := some (.cell a)) hb hu (cs := cs3) (W := W) (K := K) fun sg' b' o6 h1 h2 => q sg' b' x u o6 cs3 hx hu ((hk.trans k2).trans k3) h1 h2
    have hxl : [x].length = 1 := rfl
    generalize [x] = r at fin hxl ⊢
    rw [bw_addi]
    generalize hzu : (1 : Int) + (u : Int) = zu
    walk_at "w3"
    rw [show zu.toNat = 1 + u by omega, hxl]
    refine ⟨⟨by omega, by omega, sizeL (by omega)⟩, ?_⟩
    exact fin
theorem right1 {n : Nat} {a : Addr} {sg b l : List Nat} (ts : Tx sg) (ls : 0 < sg.length) (ls2 : sg.length < 1000) (tb : Tx b) (tl : Tx l) (hl : 0 < l.length) (hb : b.length ≤ 9) (h2 : l.length ≤ 7) {cs0 cs : CS} (hk : Kept a cs0 cs) {Q : D → Bool → CS → Prop} {E : Exn → CS → Prop} (q : ∀ cs', Kept a cs0 cs' → Q (.bl true) false cs') :
    wpB pg (phiN pg bodies (n + 8)) rt2 [some (.cell a), some (.str (mk sg)), none, none, some (.str (mk b)), some (.str (mk l)), none] cs (fun x _ c => E x c) { nx := fun _ c => Q .non false c, rt := Q } := by
  have e4 : (4 : Int) = ((4 : Nat) : Int) := rfl
  rw [rt2_is]
  walk_at "w3"
  rw [e4]
  refine ⟨rfl, draw_ok (by decide) (by decide) hk.pot fun v cs1 hv k1 => ?_⟩
  have kk1 := hk.trans k1
  walk_at "w3"
  refine ⟨fun _ => ?_, fun _ => ?_⟩
  · unfold rtA
    walk_at "w3"
    refine ⟨sizeL (by omega), ?_⟩
    refine rightB ls ls2 (by simp; omega) kk1 fun sg' b' x u o6 cs' hx hu kk hb1 hb2 => ?_
    have hl3 : (rep [x] (1 + u)).length = (1 + u) * 1 := rep_length _ _
    have tx : Tx [x] := fun y hy => by rw [List.mem_singleton.mp hy]; exact ts x hx
    have tbd : Tx (b ++ [100]) := tb.app (tx_of (l := [100]) rfl)
    exact right3 ⟨fun c hc => tbd c (hb1 c hc), tx.rep _, by omega, by omega, by omega⟩ (by omega) kk q
  · exact right3 ⟨tb, tl, hl, by omega, by omega⟩ (by omega) kk1 q
theorem right_ok {n : Nat} {a : Addr} {cs : CS} (hp : Pot cs a) {Q : D → Bool → CS → Prop} {E : Exn → CS → Prop}
    (q : ∀ cs', Kept a cs cs' → Q (.bl true) false cs') : phiN pg bodies (n + 9) 34 [.cell a] cs Q E := by
  refine phi_at (b := (b34, 7)) rfl ?_
  show wpB _ _ b34 _ _ _ _
  rw [rt_is]
  have e2 : (2 : Int) = ((2 : Nat) : Int) := rfl
  have e3 : (3 : Int) = ((3 : Nat) : Int) := rfl
  have e9 : (9 : Int) = ((9 : Nat) : Int) := rfl
  have e6 : (6 : Int) = ((6 : Nat) : Int) := rfl
  unfold rt0
  walk_at "w3"
  rw [e2]
  refine ⟨rfl, draw_ok (by decide) (by decide) hp fun v cs1 hv k1 => ?_⟩
  walk_at "w3"
  rw [cut_from, e3]
  walk_at "w3"
  refine ⟨sizeL (by decide), rfl, draw_ok (by decide) (by decide) k1.pot fun u cs2 hu k2 => ?_⟩
  walk_at "w3"
  rw [show (1 : Int) + (u : Int) = ((1 + u : Nat) : Int) by omega, cut_to]
  have ts : Tx (([97, 98, 99].drop v).take (1 + u)) := ((tx_of (l := [97, 98, 99]) rfl).drop _).take _
  have ls : 0 < (([97, 98, 99].drop v).take (1 + u)).length := by rw [List.length_take, List.length_drop]; show 0 < min (1 + u) (3 - v); omega
  have ls2 : (([97, 98, 99].drop v).take (1 + u)).length < 1000 := by rw [List.length_take, List.length_drop]; show min (1 + u) (3 - v) < 1000; omega
  generalize ([97, 98, 99].drop v).take (1 + u) = sg at ts ls ls2 ⊢
  refine ⟨sizeL (by simp; omega), ?_⟩
  unfold rt1
  walk_at "w3"
  rw [e9]
  refine ⟨rfl, text_ok ls (by omega) (by decide) (k1.trans k2).pot fun b cs3 ib lb k3 => ?_⟩
  rw [e6]
  refine ⟨rfl, text_ok ls (by omega) (by decide) ((k1.trans k2).trans k3).pot fun t cs4 it lt k4 => ⟨rfl, pick_str_ok ls (by omega) (((k1.trans k2).trans k3).trans k4).pot fun c cs5 hc k5 => ?_⟩⟩
  have kk := (((k1.trans k2).trans k3).trans k4).trans k5
  have tb : Tx b := fun c hc => ts c (ib c hc)
  have tt : Tx t := fun c hc => ts c (it c hc)
  have tc : Tx [c] := fun x hx => by rw [List.mem_singleton.mp hx]; exact ts c hc
  walk_at "w3"
  refine ⟨sizeL (by omega), ?_⟩
  exact right1 ts ls ls2 tb (tt.app tc) (by simp) (by omega) (by simp; omega) kk q
def pp3 : Sms := .nil
def pp2 : Sms := .cons (.ret (.lst (.cons (.bi .max (.cons (.int 0) (.cons (.bin .Sub (.var 2) (.bin .Pow (.int 10) (.int 18))) .nil))) (.cons (.bin .Add (.bin .Mod (.bi .int (.cons (.bin .Add (.bin .Add (.bin .Mult (.bin .Mod (.bi .int (.cons (.var 2) .nil)) (.int 2147483587)) (.int 48271)) (.bin .Mult (.int 8161) (.var 1))) (.int 191)) .nil)) (.int 2147483629)) (.int 1)) .nil)))) pp3
def pp1 : Sms := .cons (.ifs (.val (.cmp .Lt (.var 1) (.bi .len (.cons (.var 0) .nil)))) (.cons (.asg (.nm 2) (.bi .abs (.cons (.sub (.var 0) (.var 1)) .nil))) .nil) .nil) pp2
def pp0 : Sms := .cons (.asg (.nm 2) (.bin .Add (.bin .Mult (.int 163) (.var 1)) (.int 137))) pp1
theorem pp_is : b21 = pp0 := rfl
theorem pot2 {n k : Nat} {ki y : Int} {d0 : D} (ek : ki = (k : Int)) (hk : k < 4) {cs : CS} {Q : D → Bool → CS → Prop} {E : Exn → CS → Prop}
    (q : ∀ x y : Nat, y ≤ 2147483629 → Q (.lst [.int x, .int y]) true cs) : wpB pg (phiN pg bodies n) pp2 [some d0, some (.int ki), some (.int y)] cs (fun x _ c => E x c) { nx := fun _ c => Q .non false c, rt := Q } := by
  unfold pp2
  walk_at "w3"
  have e1 : ∀ u : Int, (if u > 0 then u else 0) = ((u.toNat : Nat) : Int) := fun u => by split <;> omega
  have e2 : ∀ v : Int, v.fmod 2147483629 + 1 = (((v.fmod 2147483629).toNat + 1 : Nat) : Int) := fun v => by
    have := Int.fmod_nonneg_of_pos v (b := 2147483629) (by decide)
    omega
  have m1 : ∀ v : Int, mulOk v 48271 = true := fun v => by
    unfold mulOk
    rw [show (decide (-(2 ^ 64) < (48271 : Int)) && decide ((48271 : Int) < 2 ^ 64)) = true from rfl, Bool.or_true]
  have m2 : ∀ v : Int, mulOk 8161 v = true := fun v => by
    unfold mulOk
    rw [show (decide (-(2 ^ 64) < (8161 : Int)) && decide ((8161 : Int) < 2 ^ 64)) = true from rfl, Bool.true_or]
  refine ⟨⟨by decide, by decide, by decide⟩, by decide, m1 _, m2 _, by decide, sizeL (by decide), ?_⟩
  rw [e1, e2]
  refine q _ _ ?_
  have := Int.fmod_lt_of_pos (y.fmod 2147483587 * 48271 + 8161 * ki + 191) (b := 2147483629) (by decide)
  have := Int.fmod_nonneg_of_pos (y.fmod 2147483587 * 48271 + 8161 * ki + 191) (b := 2147483629) (by decide)
  omega
theorem pot_ok {n k : Nat} {ns : List Int} (hk : k < 4) (hn : ns.length ≤ 63) {cs : CS} {Q : D → Bool → CS → Prop} {E : Exn → CS → Prop}
    (q : ∀ x y : Nat, y ≤ 2147483629 → Q (.lst [.int x, .int y]) true cs) : phiN pg bodies (n + 1) 21 [.rol (ns.map D.int), .int (k : Int)] cs Q E := by
  refine phi_at (b := (b21, 3)) rfl ?_
  show wpB _ _ b21 _ _ _ _
  rw [pp_is]
  have go : ∀ ki : Int, ki = (k : Int) → wpB pg (phiN pg bodies n) pp0 [some (.rol (ns.map D.int)), some (.int ki), none] cs (fun x _ c => E x c) { nx := fun _ c => Q .non false c, rt := Q } := by
    intro ki ek
    unfold pp0
    walk_at "w3"
    unfold pp1
    walk_at "w3"
    refine ⟨?_, fun h => ?_, fun _ => pot2 ek hk q⟩
    · unfold mulOk
      rw [show (decide (-(2 ^ 64) < (163 : Int)) && decide ((163 : Int) < 2 ^ 64)) = true from rfl, Bool.true_or]
    · have hk' : k < ns.length := by rw [List.length_map] at h; omega
      have ha : atI (ns.map D.int) ki = some (.int ns[k]) := atI_at (k := k) ek (by simp [hk'])
      simp only [ha]
      walk_at "w3"
      exact pot2 ek hk q
  exact go _ rfl
theorem blsD_true {α : Type} (xs : List α) : blsD (xs.map fun _ => D.bl true) = some (xs.map fun _ => true) := by
  induction xs with
  | nil => rfl
  | cons x r ih => simp only [List.map_cons, blsD, ih]; rfl
theorem all_true {α : Type} (xs : List α) : (xs.map fun _ => true).all id = true := by
  induction xs with
  | nil => rfl
  | cons x r ih => simp only [List.map_cons, List.all_cons, ih]; rfl

theorem rg_is (N : Nat) : ∃ m : Nat, (if (if (N : Int) < 4 then (N : Int) else 4) > 1 then (if (N : Int) < 4 then (N : Int) else 4) else 1) = (m : Int) ∧ m ≤ 4 := by
  by_cases h : (N : Int) < 4
  · rw [if_pos h]
    by_cases h1 : (N : Int) > 1
    · exact ⟨N, if_pos h1, by omega⟩
    · exact ⟨1, if_neg h1, by decide⟩
  · rw [if_neg h]; exact ⟨4, if_pos (by decide), by decide⟩
theorem law_is {n : Nat} {ns : List Int} (hn : ns.length ≤ 63) {cs : CS} {Q : D → Bool → CS → Prop} {E : Exn → CS → Prop}
    (q : ∀ cs', Q (.bl true) false cs') : phiN pg bodies (n + 10) 35 [.rol (ns.map D.int)] cs Q E := by
  refine phi_at (b := (b35, 2)) rfl ?_
  unfold b35
  walk_at "w3"
  obtain ⟨m, em, hm⟩ := rg_is (ns.map D.int).length
  rw [em]
  refine ⟨⟨by omega, by omega⟩, fun c hc => ?_⟩
  refine forL_inv (I := fun pre env cs3 => (∃ w, env = [some (.rol (ns.map D.int)), w]) ∧ cs3 c = some (.lst (pre.map fun _ => D.bl true))) ?_
    ⟨⟨_, rfl⟩, cset_same⟩ ?_
  · rintro pre d post env cs3 K hits ⟨⟨w, rfl⟩, ht⟩ hK
    have hd : ∃ k : Nat, k < 4 ∧ d = .int (k : Int) := by
      have hm2 : d ∈ pre ++ d :: post := by simp
      rw [← hits] at hm2
      simp only [rngI, List.mem_map, List.mem_range] at hm2
      obtain ⟨k, hk, rfl⟩ := hm2
      exact ⟨k, by omega, by rw [Int.zero_add]⟩
    have hlen : pre.length < m := by
      have := congrArg List.length hits
      simp [rngI] at this
      omega
    clear hits
    obtain ⟨k, hk, rfl⟩ := hd
    simp only [wipeE]
    walk_at "w3"
    refine ⟨rfl, pot_ok hk hn fun x y hy c2 hc2 => ?_⟩
    have hne : c ≠ c2 := fun e => by rw [e, hc2] at ht; cases ht
    refine ⟨rfl, right_ok ⟨x, y, cset_same, hy⟩ fun cs4 k4 => ?_⟩
    have ht4 := k4.2 c _ hne (by rw [cset_ne hne]; exact ht)
    rw [app_cell ht4]
    exact ⟨by rw [List.length_map, sizeLine_eq]; omega, hK _ _ ⟨⟨_, rfl⟩, by rw [cset_same]; simp⟩⟩
  · rintro env cs3 ⟨⟨w, rfl⟩, ht⟩
    simp only [ht, bp_all, blsD_true, Option.map_some, roK_some, all_true]
    exact q _
end K13
set_option Elab.async false
set_option linter.all false
set_option maxRecDepth 100000
set_option maxHeartbeats 0
namespace K13
open PySem PySem.Spec PyProof.Rows L2 Dw
theorem law_ok (ns : List Int) (h : ns.length ≤ 63) : phiN pg bodies 41 35 [.rol (ns.map D.int)] (fun _ => none) (fun d fr _ => d = .bl true ∧ fr = false) (fun _ _ => False) := by
  exact law_is (n := 31) h fun _ => ⟨rfl, rfl⟩
end K13
open PySem PySem.W PySem.Calls PyProof.Rows
theorem PySem.Challenge.cw_ringdepth_k13_whole_words_by_letters_holds : PySem.Challenge.rw_ringdepth_k13_whole_words_by_letters.Holds := by
  w_on; o_law
  refine HandSHeadRun.head_any (r := OpenLaw.row PySem.Challenge.rw_ringdepth_k13_whole_words_by_letters) (q := view (OpenLaw.row PySem.Challenge.rw_ringdepth_k13_whole_words_by_letters).prog [31]) (H := K13.hk) (ob := K13.ob) (M := 4000) (loose := K13.loose) (d := HandSHeadRun.topDef (OpenLaw.row PySem.Challenge.rw_ringdepth_k13_whole_words_by_letters).prog 31) (kwd := []) K13.ob_eq
    (by kernel_rfl) (fun s => by kernel_rfl) K13.run (by kernel_rfl) (by kernel_rfl) (by kernel_rfl) (by rfl) (by first | assumption | decide +kernel) (by decide +kernel) ⟨rfl, rfl, rfl, rfl, rfl, by decide +kernel⟩ ?hw ?hc
  case hw => w_witness2
  case hc =>
    refine Dw.walkG (l := PySem.Challenge.rw_ringdepth_k13_whole_words_by_letters) (n := 63) (k := 2 * (40 + 1) + 26) (x := "_law_script") rfl (by decide) (by kernel_rfl) ⟨rfl, by decide, by decide⟩ ?F
    intro w mg fa h Y G hmg0
    obtain ⟨K, KX, c⟩ := Y
    have hmg : mg ("law" : PySem.Str) = some (.ref fa) := by
      have e : (HandSHeadRun.topDef (OpenLaw.row PySem.Challenge.rw_ringdepth_k13_whole_words_by_letters).prog 31).name = ("law" : PySem.Str) := by kernel_rfl
      rw [← e]
      exact hmg0
    obtain ⟨fd, sp, h1, h2, h3⟩ := Dw.promise (prog := (PySem.Challenge.rw_ringdepth_k13_whole_words_by_letters).prog) (w := w) (nm := "law") (x := "_law_script") (li := 35) (n := 40) (dl := K13.d35) (fl := K13.pg.fns[35]) K13.allSt K13.rep_ok rfl rfl rfl rfl (by kernel_rfl) K13.law_ok KX c G hmg
    exact ⟨K, fd, sp, KX, h1, h2, h3⟩
