import PyProof.Rows.All
import Wide.All
import OpenK.AllK
import Wide.FinOn
import HandS.ForExc
import HandS.Comp
import HandS.More
import HandS.Iter
import HandS.Text
import HandS.Dict
import HandS.Flow
import HandS.Wide
import HandS.IsInst
import HandS.TupAny
import HandS.TupMul
import HandS.Defaults
import HandS.Star
import HandS.CallSlots
import HandS.Style
import HandS.TryMany
import HandS.ExcInit
import HandS.SetKeys
import HandS.Conv
import PyProof.ReprRoads
import KE.KRevSl
import HandS.Zip
import HandS.Set
import HandS.SetFor
import HandS.TupSets
import HandS.Deep
import HandS.DictEq
import PyProof.NeKinds
import HandS.List
import HandS.Steps
import PyProof.TupleOfStr
import PyProof.Seq
import KE.GoesEnum
import KE.GoesZip
import KE.KDictZip
import KE.GoesMore
import PyProof.EnumMake
import HandS.RevRange
import HandS.Replace
import HandS.Small
import HandS.Codes
import PyProof.ReprBulk
import PyProof.Ascii
import PyProof.Rows.RegStrFacts
import KE.DataCmp
import PySem.Challenge.RW_deepedge_k44_helpful_pushes_told
set_option Elab.async false
set_option linter.all false
set_option maxRecDepth 100000
set_option maxHeartbeats 4000000
set_option exponentiation.threshold 3000
namespace Di
open PySem PySem.Spec PyProof.Rows L2

/-! ## heaps and data -/
def Ext (H H' : Hp) : Prop := ∀ a o, H a = some o → H' a = some o
/-- all that stands at an address of P stays -/
def Kp (P : Addr → Prop) (H H' : Hp) : Prop := ∀ a o, P a → H a = some o → H' a = some o
theorem Ext.refl (H : Hp) : Ext H H := fun _ _ h => h
theorem Ext.trans {A B C : Hp} (h : Ext A B) (g : Ext B C) : Ext A C := fun a o e => g a o (h a o e)
theorem Ext.new {H : Hp} {p : Addr} {o : HO} (h : H p = none) : Ext H (upd H p o) := fun a u e => by
  rw [upd_ne (ne_of_none e h)]; exact e
theorem Ext.kp {H H' : Hp} (h : Ext H H') (P : Addr → Prop) : Kp P H H' := fun a o _ e => h a o e
theorem Kp.refl (P : Addr → Prop) (H : Hp) : Kp P H H := fun _ _ _ h => h
theorem Kp.trans {P : Addr → Prop} {A B C : Hp} (h : Kp P A B) (g : Kp P B C) : Kp P A C := fun a o p e => g a o p (h a o p e)
theorem Kp.weak {P P' : Addr → Prop} {A B : Hp} (h : Kp P A B) (s : ∀ a, P' a → P a) : Kp P' A B := fun a o p e => h a o (s a p) e
theorem Ext.none {H H' : Hp} (h : Ext H H') {p : Addr} (e : H' p = none) : H p = none := by
  cases q : H p with
  | none => rfl
  | some o => rw [h p o q] at e; cases e

def KL (K : PySem.W.Frag) (a : Addr) (xs : List V) : Prop :=
  ∃ (its : List Value) (n : Nat), K.lookup a = some { cls := .type "list", data := .seq its.toArray n } ∧ its.length ≤ sizeLine ∧ Vals xs its
/-- a list that may be read -/
def LV (K : PySem.W.Frag) (H : Hp) (a : Addr) (xs : List V) : Prop := Rd H a (.lst xs) ∨ KL K a xs
def KT (K : PySem.W.Frag) (a : Addr) (xs : List V) : Prop :=
  ∃ (o : Obj) (its : Array Value) (n : Nat), K.lookup a = some o ∧ o.cls = .type "tuple" ∧ o.data = .seq its n ∧ its.size ≤ sizeLine ∧ Vals xs its.toList
def LAt (K : PySem.W.Frag) (H : Hp) (P : Addr → Prop) (a : Addr) (xs : List V) : Prop := (P a ∧ Rd H a (.lst xs)) ∨ KL K a xs
def TAt (K : PySem.W.Frag) (H : Hp) (P : Addr → Prop) (a : Addr) (xs : List V) : Prop := (P a ∧ Rd H a (.tup xs)) ∨ KT K a xs
section
variable {K : PySem.W.Frag} {H H' : Hp} {P P' : Addr → Prop} {a : Addr} {xs : List V}
theorem rd_kp {u : HO} (h : Rd H a u) (k : Kp P H H') (p : P a) : Rd H' a u := by
  rcases h with h | ⟨o, h⟩
  · exact .inl (k _ _ p h)
  · exact .inr ⟨o, k _ _ p h⟩
theorem LV.sq (h : LV K H a xs) : SqL K H a xs := by
  rcases h with h | ⟨its, n, h, z, r⟩
  · exact .inl h
  · exact .inr ⟨_, its.toArray, n, h, rfl, rfl, rfl, by simpa using z, by simpa using r⟩
theorem LAt.lv (h : LAt K H P a xs) : LV K H a xs := by
  rcases h with ⟨_, h⟩ | h
  · exact .inl h
  · exact .inr h
theorem TAt.sq (h : TAt K H P a xs) : SqT K H a xs := by
  rcases h with ⟨_, h⟩ | h
  · exact .inl h
  · exact .inr h
theorem LAt.mono (h : LAt K H P a xs) (k : Kp P H H') (s : ∀ a, P a → P' a) : LAt K H' P' a xs := by
  rcases h with ⟨p, h⟩ | h
  · exact .inl ⟨s _ p, rd_kp h k p⟩
  · exact .inr h
theorem TAt.mono (h : TAt K H P a xs) (k : Kp P H H') (s : ∀ a, P a → P' a) : TAt K H' P' a xs := by
  rcases h with ⟨p, h⟩ | h
  · exact .inl ⟨s _ p, rd_kp h k p⟩
  · exact .inr h
end

def kD : Key → PyData
  | .inl i => .int i
  | .inr x => .str x

mutual
/-- the value v stands for the data d; every object of it that may change stands at an address of P -/
inductive Rp (K : PySem.W.Frag) (H : Hp) (P : Addr → Prop) : V → PyData → Prop
  | non : Rp K H P .non .none
  | bl (b : Bool) : Rp K H P (.bl b) (.bool b)
  | int (i : Int) : Rp K H P (.int i) (.int i)
  | str (x : Str) : Rp K H P (.str x) (.str x)
  | lst {a : Addr} {xs : List V} {ds : List PyData} : LAt K H P a xs → RpL K H P xs ds → Rp K H P (.ref a) (.list ds)
  | tup {a : Addr} {xs : List V} {ds : List PyData} : TAt K H P a xs → RpL K H P xs ds → Rp K H P (.ref a) (.tuple ds)
  | dic {a : Addr} {ks : List (Key × V)} {ds : List (PyData × PyData)} : P a → Rd H a (.dK ks) → RpD K H P ks ds → Rp K H P (.ref a) (.dict ds)
inductive RpL (K : PySem.W.Frag) (H : Hp) (P : Addr → Prop) : List V → List PyData → Prop
  | nil : RpL K H P [] []
  | cons {v : V} {vs : List V} {d : PyData} {ds : List PyData} : Rp K H P v d → RpL K H P vs ds → RpL K H P (v :: vs) (d :: ds)
inductive RpD (K : PySem.W.Frag) (H : Hp) (P : Addr → Prop) : List (Key × V) → List (PyData × PyData) → Prop
  | nil : RpD K H P [] []
  | cons {k : Key} {v : V} {vs : List (Key × V)} {d : PyData} {ds : List (PyData × PyData)} : Rp K H P v d → RpD K H P vs ds → RpD K H P ((k, v) :: vs) ((kD k, d) :: ds)
end
section
variable {K : PySem.W.Frag} {H H' : Hp} {P P' : Addr → Prop}
mutual
theorem Rp.mono (k : Kp P H H') (s : ∀ a, P a → P' a) : ∀ {d : PyData} {v : V}, Rp K H P v d → Rp K H' P' v d
  | .none, _, .non => .non
  | .bool _, _, .bl b => .bl b
  | .int _, _, .int i => .int i
  | .str _, _, .str x => .str x
  | .list ds, _, .lst h g => .lst (h.mono k s) (RpL.mono k s g)
  | .tuple ds, _, .tup h g => .tup (h.mono k s) (RpL.mono k s g)
  | .dict ds, _, .dic p h g => .dic (s _ p) (rd_kp h k p) (RpD.mono k s g)
theorem RpL.mono (k : Kp P H H') (s : ∀ a, P a → P' a) : ∀ {ds : List PyData} {vs : List V}, RpL K H P vs ds → RpL K H' P' vs ds
  | [], _, .nil => .nil
  | _ :: _, _, .cons h g => .cons (Rp.mono k s h) (RpL.mono k s g)
theorem RpD.mono (k : Kp P H H') (s : ∀ a, P a → P' a) : ∀ {ds : List (PyData × PyData)} {vs : List (Key × V)}, RpD K H P vs ds → RpD K H' P' vs ds
  | [], _, .nil => .nil
  | _ :: _, _, .cons h g => .cons (Rp.mono k s h) (RpD.mono k s g)
end
theorem Rp.ext (h : Ext H H') {d : PyData} {v : V} (r : Rp K H P v d) : Rp K H' P v d := r.mono (h.kp P) fun _ p => p
theorem RpL.ext (h : Ext H H') {ds : List PyData} {vs : List V} (r : RpL K H P vs ds) : RpL K H' P vs ds := r.mono (h.kp P) fun _ p => p
theorem RpL.length {ds : List PyData} : ∀ {vs : List V}, RpL K H P vs ds → vs.length = ds.length := by
  induction ds with
  | nil => intro vs h; cases h; rfl
  | cons d ds ih => intro vs h; cases h with | cons _ g => simp [ih g]
theorem RpD.length {ds : List (PyData × PyData)} : ∀ {vs : List (Key × V)}, RpD K H P vs ds → vs.length = ds.length := by
  induction ds with
  | nil => intro vs h; cases h; rfl
  | cons d ds ih => intro vs h; cases h with | cons _ g => simp [ih g]
theorem RpL.get {ds : List PyData} : ∀ {vs : List V} {i : Nat} {d : PyData}, RpL K H P vs ds → ds[i]? = some d → ∃ v, vs[i]? = some v ∧ Rp K H P v d := by
  induction ds with
  | nil => intro vs i d h e; simp at e
  | cons x ds ih =>
    intro vs i d h e
    cases h with
    | cons h g =>
      cases i with
      | zero => simp at e; subst e; exact ⟨_, rfl, h⟩
      | succ i => simpa using ih (i := i) g (by simpa using e)
theorem RpL.append {ds es : List PyData} : ∀ {vs ws : List V}, RpL K H P vs ds → RpL K H P ws es → RpL K H P (vs ++ ws) (ds ++ es) := by
  induction ds with
  | nil => intro vs ws h g; cases h; exact g
  | cons x ds ih => intro vs ws h g; cases h with | cons h h' => exact .cons h (ih h' g)
theorem RpL.take {ds : List PyData} : ∀ {vs : List V} (n : Nat), RpL K H P vs ds → RpL K H P (vs.take n) (ds.take n) := by
  induction ds with
  | nil => intro vs n h; cases h; simp; exact .nil
  | cons x ds ih =>
    intro vs n h
    cases h with
    | cons h g =>
      cases n with
      | zero => exact .nil
      | succ n => exact .cons h (ih n g)
theorem RpL.drop {ds : List PyData} : ∀ {vs : List V} (n : Nat), RpL K H P vs ds → RpL K H P (vs.drop n) (ds.drop n) := by
  induction ds with
  | nil => intro vs n h; cases h; simp; exact .nil
  | cons x ds ih =>
    intro vs n h
    cases h with
    | cons h g =>
      cases n with
      | zero => exact .cons h g
      | succ n => exact ih n g
theorem RpL.set {ds : List PyData} {v : V} {d : PyData} (r : Rp K H P v d) : ∀ {vs : List V} (n : Nat), RpL K H P vs ds → RpL K H P (vs.set n v) (ds.set n d) := by
  induction ds with
  | nil => intro vs n h; cases h; exact .nil
  | cons x ds ih =>
    intro vs n h
    cases h with
    | cons h g =>
      cases n with
      | zero => exact .cons r g
      | succ n => exact .cons h (ih n g)
theorem RpL.one {v : V} {d : PyData} (r : Rp K H P v d) : RpL K H P [v] [d] := .cons r .nil
theorem RpL.ints : ∀ {is : List Int} {vs : List V}, RpL K H P vs (is.map PyData.int) → vs = is.map V.int := by
  intro is
  induction is with
  | nil => intro vs h; cases h; rfl
  | cons i is ih => intro vs h; cases h with | cons h g => cases h; rw [ih g]; rfl
theorem RpL.of_ints : ∀ (is : List Int), RpL K H P (is.map V.int) (is.map PyData.int)
  | [] => .nil
  | i :: is => .cons (.int i) (RpL.of_ints is)
theorem RpL.bools : ∀ {is : List Bool} {vs : List V}, RpL K H P vs (is.map PyData.bool) → vs = is.map V.bl := by
  intro is
  induction is with
  | nil => intro vs h; cases h; rfl
  | cons i is ih => intro vs h; cases h with | cons h g => cases h; rw [ih g]; rfl

/-- what may be read of v: as Rp, but a list's or dict's own address is anywhere -/
inductive Vw (K : PySem.W.Frag) (H : Hp) (P : Addr → Prop) : V → PyData → Prop
  | non : Vw K H P .non .none
  | bl (b : Bool) : Vw K H P (.bl b) (.bool b)
  | int (i : Int) : Vw K H P (.int i) (.int i)
  | str (x : Str) : Vw K H P (.str x) (.str x)
  | lst {a : Addr} {xs : List V} {ds : List PyData} : LV K H a xs → RpL K H P xs ds → Vw K H P (.ref a) (.list ds)
  | tup {a : Addr} {xs : List V} {ds : List PyData} : TAt K H P a xs → RpL K H P xs ds → Vw K H P (.ref a) (.tuple ds)
  | dic {a : Addr} {ks : List (Key × V)} {ds : List (PyData × PyData)} : Rd H a (.dK ks) → RpD K H P ks ds → Vw K H P (.ref a) (.dict ds)
theorem Rp.vw {v : V} {d : PyData} (h : Rp K H P v d) : Vw K H P v d := by
  cases h with
  | non => exact .non
  | bl b => exact .bl b
  | int i => exact .int i
  | str x => exact .str x
  | lst h g => exact .lst h.lv g
  | tup h g => exact .tup h g
  | dic _ h g => exact .dic h g
/-- an object of one's own: its content -/
inductive Ow (K : PySem.W.Frag) (H : Hp) (P : Addr → Prop) (a : Addr) : PyData → Prop
  | lst {xs : List V} {ds : List PyData} : H a = some (.lst xs) → RpL K H P xs ds → Ow K H P a (.list ds)
  | dic {ks : List (Key × V)} {ds : List (PyData × PyData)} : H a = some (.dK ks) → RpD K H P ks ds → Ow K H P a (.dict ds)
theorem Ow.vw {a : Addr} {d : PyData} (h : Ow K H P a d) : Vw K H P (.ref a) d := by
  cases h with
  | lst h g => exact .lst (.inl (.inl h)) g
  | dic h g => exact .dic (.inl h) g
theorem Ow.some {a : Addr} {d : PyData} (h : Ow K H P a d) : ∃ o, H a = some o ∧ Mut (some o) := by
  cases h with
  | lst h _ => exact ⟨_, h, trivial⟩
  | dic h _ => exact ⟨_, h, trivial⟩
theorem Ow.rp {a : Addr} {d : PyData} (h : Ow K H P a d) (s : ∀ b, P b → P' b) (p : P' a) : Rp K H P' (.ref a) d := by
  cases h with
  | lst h g => exact .lst (.inl ⟨p, .inl h⟩) (g.mono (Kp.refl _ _) s)
  | dic h g => exact .dic p (.inl h) (g.mono (Kp.refl _ _) s)
theorem Ow.mono {a : Addr} {d : PyData} (h : Ow K H P a d) (e : ∀ o, H a = Option.some o → H' a = Option.some o) (k : Kp P H H') (s : ∀ b, P b → P' b) : Ow K H' P' a d := by
  cases h with
  | lst h g => exact .lst (e _ h) (g.mono k s)
  | dic h g => exact .dic (e _ h) (g.mono k s)
end

section
variable {K : PySem.W.Frag} {H : Hp} {P : Addr → Prop} {D : Addr}
theorem rd_ne {a : Addr} {u : HO} (h : H D = none) (q : Rd H a u) : a ≠ D := by
  rintro rfl
  rcases q with q | ⟨o, q⟩ <;> rw [h] at q <;> cases q
mutual
theorem Rp.off (h : H D = none) : ∀ {d : PyData} {v : V}, Rp K H P v d → Rp K H (fun a => P a ∧ a ≠ D) v d
  | .none, _, .non => .non
  | .bool _, _, .bl b => .bl b
  | .int _, _, .int i => .int i
  | .str _, _, .str x => .str x
  | .list ds, _, .lst l g => .lst (match l with
    | .inl ⟨p, q⟩ => .inl ⟨⟨p, rd_ne h q⟩, q⟩
    | .inr q => .inr q) (RpL.off h g)
  | .tuple ds, _, .tup l g => .tup (match l with
    | .inl ⟨p, q⟩ => .inl ⟨⟨p, rd_ne h q⟩, q⟩
    | .inr q => .inr q) (RpL.off h g)
  | .dict ds, _, .dic p q g => .dic ⟨p, rd_ne h q⟩ q (RpD.off h g)
theorem RpL.off (h : H D = none) : ∀ {ds : List PyData} {vs : List V}, RpL K H P vs ds → RpL K H (fun a => P a ∧ a ≠ D) vs ds
  | [], _, .nil => .nil
  | _ :: _, _, .cons q g => .cons (Rp.off h q) (RpL.off h g)
theorem RpD.off (h : H D = none) : ∀ {ds : List (PyData × PyData)} {vs : List (Key × V)}, RpD K H P vs ds → RpD K H (fun a => P a ∧ a ≠ D) vs ds
  | [], _, .nil => .nil
  | _ :: _, _, .cons q g => .cons (Rp.off h q) (RpD.off h g)
end
end
section
variable {X : Cx} {pins : List (Addr × Obj)} {σ : L2.St} {H : Hp} {s : Shared} {a : Addr} {xs : List V}
theorem LV.obj (I : Inv X pins σ H s) (h : LV X.K H a xs) : ∃ (its : List Value) (n : Nat), Vals xs its ∧ xs.length ≤ sizeLine ∧ s.heap.get? a = some { cls := .type "list", data := .seq its.toArray n } := by
  rcases h with h | ⟨its, n, h, z, r⟩
  · obtain ⟨z, its, n, r, e⟩ := h.ok I.hok
    exact ⟨its, n, r, z, e⟩
  · exact ⟨its, n, r, by rw [r.length]; exact z, I.kIn a _ h⟩
end
/-- a tuple many times over, up to a million cells -/
def rRepW (K : PySem.W.Frag) : R2 := fun x y H Q => ∃ (a : Addr) (m : Nat) (zs : List V), x = .ref a ∧ y = .int (m : Int) ∧ SqT K H a zs ∧ 0 < zs.length ∧ 2 ≤ m ∧ m * zs.length ≤ 1000000 ∧ ∀ p, H p = none → Q (.ref p) (upd H p (.tup (List.replicate m zs).flatten))
set_option maxHeartbeats 4000000 in
theorem op_repW {X : Cx} : OpR X (binaryOp .Mult) (rRepW X.K) := by
  intro pins s σ H x y v u Q I rx ry ⟨a, m, zs, ex, ey, sq, pos, two, many, q⟩
  subst ex ey
  cases rx
  obtain ⟨tok, rfl⟩ := ry
  obtain ⟨us, rel, ob, sm⟩ := I.tuple sq
  obtain ⟨⟨oc, od, odata, osl⟩, hget, hcls, cnt, hdat⟩ := ob
  dsimp only at hcls hdat
  subst hcls hdat
  have same : us.toArray.size = zs.length := by rw [List.size_toArray]; exact rel.length.symm
  have total : (List.replicate m us).flatten.length ≤ 1000000 := by
    rw [PyProof.Rows.lm_len_rep_flat, ← rel.length]; exact many
  have line : (1000000 : Nat) ≤ sizeLine := by decide
  have mle : m ≤ 1000000 := Nat.le_trans (Nat.le_mul_of_pos_right m pos) many
  have some_ : us.toArray.isEmpty = false := by
    cases us with
    | nil => cases rel; exact absurd pos (Nat.lt_irrefl 0)
    | cons _ _ => rfl
  have prod : ((us.toArray.size : Nat) : Int) * (m : Int) ≤ 1000000 := by
    rw [same, ← Int.natCast_mul, Nat.mul_comm]; exact Int.ofNat_le.mpr many
  have b0 : (decide ((m : Int) < -(2 ^ 63)) || decide ((m : Int) ≥ 2 ^ 63)) = false := by simp; omega
  have b1 : (us.toArray.isEmpty || (m : Int) == 1) = false := by
    rw [some_, Bool.false_or, beq_eq_false_iff_ne]; omega
  have b2 : (decide ((m : Int) ≤ 0) || us.toArray.isEmpty) = false := by
    rw [some_, Bool.or_false, decide_eq_false_iff_not]; omega
  have b4 : Builtin.Tuple.tupleTooMany (((us.toArray.size : Nat) : Int) * (m : Int)) = false := by
    unfold Builtin.Tuple.tupleTooMany
    rw [sizeLine_eq, decide_eq_false_iff_not]; omega
  have mn : ((m : Int)).toNat = m := Int.toNat_natCast m
  have road := L2.tuple_mulW a us.toArray cnt od osl (m : Int) tok b0 b1 b2 (by omega) b4 (by rw [L2.size_rep, List.size_toArray, mn]; exact Nat.le_trans total line)
  refine wpAny_binaryOp_repeat_ref (T := "tuple") (U := "int") (by decide) ⟨_, hget, rfl⟩ (fun z => typeIs_int z _ tok) L2.noFill_tuple_mul F.fills_int_mul F.slot_int_rmul L2.repeat_tuple F.slot_int_index.lookup ?_
  refine call_meets F.slot_int_rmul (typeIs_int s _ tok) F.entry_int_rmul (F.args_int_rmul_2 _ _) (L2.int_rmul_tuple _ tok a us.toArray cnt od osl) ⟨hget, rfl, ⟨_, hget, rfl⟩, ?_⟩
  refine call_meets F.slot_tuple_mul ⟨_, hget, rfl⟩ F.entry_tuple_mul (F.args_tuple_mul_2 _ _) road ⟨hget, ?_⟩
  rw [L2.size_rep, mn]
  have fresh := I.hok.fresh (Nat.le_refl s.heap.objs.size)
  have laid := I.laid (t' := s.toks) (o := .tup (List.replicate m zs).flatten) (h' := s.heap.push { cls := .type "tuple", data := .seq (List.replicate m us).flatten.toArray }) (a := s.heap.objs.size) (fun _ _ e => Heap.get?_push_of_some _ e) (Nat.le_refl _)
    ⟨by rw [PyProof.Rows.lm_len_rep_flat]; exact Nat.le_trans many line, _, rel.rep m, IsTup.new _ _⟩
  exact ⟨.ref s.heap.objs.size, _, laid, rfl, q _ fresh⟩
theorem tuple_mul1 (l : Addr) (items : Array Value) (n : Nat) (dd : Option Addr) (sl : Array (Option Value)) (x : Int) (u : Tok) (c0 : (decide (x < -(2 ^ 63)) || decide (x ≥ 2 ^ 63)) = false) (c1 : (items.isEmpty || x == 1) = true) :
    Meets (Builtin.«tuple.__mul__» ⟨[.ref l, .int x u], []⟩) (fun _ R s => s.heap.get? l = some { cls := .type "tuple", dict := dd, data := .seq items n, slots := sl } ∧
      R (.ok (.ret (Value.ref l))) { s with heap := s.heap, toks := s.toks }) :=
  .of_wp fun prog w A R s h => by
    obtain ⟨hp, g, d, tk, os⟩ := s
    obtain ⟨hl, h⟩ := h
    have f1 := AutoSeq1.idx_int
    wp_walk using wpAny_loadPart' hl
    repeat (first
      | (refine wpAny_ite_false (decide_eq_false (by rw [c0]; exact Bool.false_ne_true)) ?_; wp_walk using wpAny_loadPart' hl)
      | (refine wpAny_ite_true (decide_eq_true (by rw [c1])) ?_; wp_walk using wpAny_loadPart' hl))
    exact ⟨_, rfl, h⟩
theorem tuple_mul0 (l : Addr) (items : Array Value) (n : Nat) (dd : Option Addr) (sl : Array (Option Value)) (x : Int) (u : Tok) (c0 : (decide (x < -(2 ^ 63)) || decide (x ≥ 2 ^ 63)) = false) (c1 : (items.isEmpty || x == 1) = false) (c2 : (decide (x ≤ 0) || items.isEmpty) = true) :
    Meets (Builtin.«tuple.__mul__» ⟨[.ref l, .int x u], []⟩) (fun _ R s => s.heap.get? l = some { cls := .type "tuple", dict := dd, data := .seq items n, slots := sl } ∧
      R (.ok (.ret (Value.ref s.heap.objs.size))) { s with heap := s.heap.push { cls := Value.type "tuple", data := Data.seq #[] }, toks := s.toks }) :=
  .of_wp fun prog w A R s h => by
    obtain ⟨hp, g, d, tk, os⟩ := s
    obtain ⟨hl, h⟩ := h
    have f1 := AutoSeq1.idx_int
    wp_walk using wpAny_loadPart' hl
    repeat (first
      | (refine wpAny_ite_false (decide_eq_false (by rw [c0]; exact Bool.false_ne_true)) ?_; wp_walk using wpAny_loadPart' hl)
      | (refine wpAny_ite_false (decide_eq_false (by rw [c1]; exact Bool.false_ne_true)) ?_; wp_walk using wpAny_loadPart' hl)
      | (refine wpAny_ite_true (decide_eq_true (by rw [c2])) ?_; wp_walk using wpAny_loadPart' hl))
    exact ⟨_, rfl, h⟩
def rRep01 (K : PySem.W.Frag) : R2 := fun x y H Q => ∃ (a : Addr) (k : Int) (zs : List V), x = .ref a ∧ y = .int k ∧ SqT K H a zs ∧ -(2 ^ 63) ≤ k ∧ k ≤ 1 ∧ 0 < zs.length ∧ (k = 1 → Q (.ref a) H) ∧ (k ≤ 0 → ∀ p, H p = none → Q (.ref p) (upd H p (.tup [])))
set_option maxHeartbeats 4000000 in
theorem op_rep01 {X : Cx} : OpR X (binaryOp .Mult) (rRep01 X.K) := by
  intro pins s σ H x y v u Q I rx ry ⟨a, k, zs, ex, ey, sq, lo, hi, pos, q1, q0⟩
  subst ex ey
  cases rx
  obtain ⟨tok, rfl⟩ := ry
  obtain ⟨us, rel, ob, sm⟩ := I.tuple sq
  obtain ⟨⟨oc, od, odata, osl⟩, hget, hcls, cnt, hdat⟩ := ob
  dsimp only at hcls hdat
  subst hcls hdat
  have some_ : us.toArray.isEmpty = false := by
    cases us with
    | nil => cases rel; exact absurd pos (Nat.lt_irrefl 0)
    | cons _ _ => rfl
  have b0 : (decide (k < -(2 ^ 63)) || decide (k ≥ 2 ^ 63)) = false := by
    rw [decide_eq_false (by omega), decide_eq_false (by omega)] <;> rfl
  refine wpAny_binaryOp_repeat_ref (T := "tuple") (U := "int") (by decide) ⟨_, hget, rfl⟩ (fun z => typeIs_int z _ tok) L2.noFill_tuple_mul F.fills_int_mul F.slot_int_rmul L2.repeat_tuple F.slot_int_index.lookup ?_
  refine call_meets F.slot_int_rmul (typeIs_int s _ tok) F.entry_int_rmul (F.args_int_rmul_2 _ _) (L2.int_rmul_tuple _ tok a us.toArray cnt od osl) ⟨hget, rfl, ⟨_, hget, rfl⟩, ?_⟩
  by_cases one : k = 1
  · subst one
    exact call_meets F.slot_tuple_mul ⟨_, hget, rfl⟩ F.entry_tuple_mul (F.args_tuple_mul_2 _ _) (tuple_mul1 a us.toArray cnt od osl 1 tok b0 (by rw [some_]; rfl)) ⟨hget, ⟨.ref a, H, I, rfl, q1 rfl⟩⟩
  · refine call_meets F.slot_tuple_mul ⟨_, hget, rfl⟩ F.entry_tuple_mul (F.args_tuple_mul_2 _ _) (tuple_mul0 a us.toArray cnt od osl k tok b0 (by rw [some_, Bool.false_or]; exact beq_eq_false_iff_ne.mpr one) (by rw [some_, Bool.or_false]; exact decide_eq_true (by omega))) ⟨hget, ?_⟩
    have fresh := I.hok.fresh (Nat.le_refl s.heap.objs.size)
    have laid := I.laid (t' := s.toks) (o := .tup []) (h' := s.heap.push { cls := .type "tuple", data := .seq #[] }) (a := s.heap.objs.size) (fun _ _ e => Heap.get?_push_of_some _ e) (Nat.le_refl _)
      ⟨by simp, [], .nil, IsTup.new _ _⟩
    exact ⟨.ref s.heap.objs.size, _, laid, rfl, q0 (by omega) _ fresh⟩
section
variable {prog : Program} {w : World} {A : Around} {E : Value → Shared → Prop} {s : Shared}
theorem spart {v : Value} {o : Option Int} {Q : Option Int → Shared → Prop} (p : IsPart v o) (h : Q o s) : wpAny (model prog w) A (Builtin.Slice.slicePartIndex v) Q E s := by
  cases p with
  | none => exact slicePart_none h
  | int i t => exact slicePart_int h
theorem sliceApplied_rev {sl : Addr} {vs : Value} {n : Nat} {Q : Int × Int × Nat → Shared → Prop} (hs : s.heap.IsSliceOf sl .none .none vs) (ps : IsPart vs (some (-1)))
    (h : Q ((n : Int) - 1, -1, n) s) : wpAny (model prog w) A (Builtin.Slice.sliceApplied (.ref sl) (pure (n : Int))) Q E s := by
  obtain ⟨os, hos, hcs, hds⟩ := id hs
  unfold Builtin.Slice.sliceApplied Builtin.Slice.sliceFields
  refine wpAny_bind (wpAny_bind (wpAny_field hos hds (x := .none) rfl (wpAny_bind (wpAny_field hos hds (x := .none) rfl (wpAny_bind (wpAny_field hos hds (x := vs) rfl (wpAny_pure ?_)))))))
  refine wpAny_bind (spart ps ?_)
  show wpAny _ _ (if ((-1 : Int) == 0) = true then _ else _) _ _ s
  rw [if_neg (by decide)]
  refine wpAny_bind (slicePart_none (wpAny_bind (slicePart_none (wpAny_bind (wpAny_pure ?_)))))
  show wpAny _ _ (pure ((n : Int) - 1, (-1 : Int), Builtin.Slice.slicePlaces ((n : Int) - 1) (-1) (-1))) _ _ s
  have e : Builtin.Slice.slicePlaces ((n : Int) - 1) (-1) (-1) = n := by
    unfold Builtin.Slice.slicePlaces
    have h1 : ¬ ((-1 : Int) > 0) := by omega
    simp only [h1, if_false]
    by_cases z : (n : Int) - 1 > -1
    · rw [if_pos z, show (- -1 : Int) = 1 by decide, Int.ediv_one]; omega
    · rw [if_neg z]; omega
  rw [e]
  exact wpAny_pure h
theorem fm_congr {α β : Type} {f g : α → Option β} : ∀ {l : List α}, (∀ k ∈ l, f k = g k) → l.filterMap f = l.filterMap g
  | [], _ => rfl
  | a :: l, h => by
    rw [List.filterMap_cons, List.filterMap_cons, h a List.mem_cons_self, fm_congr fun k hk => h k (List.mem_cons_of_mem _ hk)]
theorem rev_pick (items : Array Value) : ((List.range items.size).filterMap fun (k : Nat) => items[((items.size : Int) - 1 + (k : Int) * -1).toNat]?).toArray = items.toList.reverse.toArray := by
  congr 1
  have e : ((List.range items.size).filterMap fun (k : Nat) => items[((items.size : Int) - 1 + (k : Int) * -1).toNat]?) = ((List.range items.size).filterMap fun k => items[items.size - 1 - k]?) := by
    apply fm_congr
    intro k hk
    have := List.mem_range.mp hk
    congr 1
    omega
  rw [e, ← PySem.W.krv_all items, ← List.filterMap_reverse, ← PySem.W.krv_range, List.filterMap_map]
  rfl
theorem getItem_tuple_rev {t sl : Addr} {items : Array Value} {vs : Value} {Q : Value → Shared → Prop} (ht : IsTup s.heap t items) (hs : s.heap.IsSliceOf sl .none .none vs) (ps : IsPart vs (some (-1)))
    (h : Q (.ref s.heap.objs.size) { s with heap := s.heap.push { cls := .type "tuple", data := .seq items.toList.reverse.toArray } })
    (hsz : items.size ≤ sizeLine) : wpAny (model prog w) A (getItem (.ref t) (.ref sl)) Q E s := by
  have htake : sizeOk (.seq items.toList.reverse.toArray) := by
    show items.toList.reverse.toArray.size ≤ sizeLine
    rw [List.size_toArray, List.length_reverse, Array.length_toList]
    exact hsz
  obtain ⟨os, hos, hcs, hds⟩ := id hs
  have hTs : s.TypeIs (.ref sl) "slice" := ⟨os, hos, hcs⟩
  unfold getItem
  try with_reducible refine wpAny_holding ?_
  first | refine wpAny_bind (wpAny_pure ?_) | skip
  refine wpAny_bind (wpAny_sequenceKey ht.typeIs (by decide) ?_)
  refine wpAny_bind (wpAny_callSpecial?_slot (name := Str.ofString "__getitem__") ht.typeIs PyProof.Rows.slot_tuple_getitem
    (wpAny_call_entry PyProof.Rows.slot_tuple_getitem ht.typeIs entry_tuple_getitem ?_ (args_tuple_getitem _ _)))
  show wpAny _ _ (Builtin.Tuple.tupleItemsOf (.ref t) >>= _) _ _ s
  refine wpAny_bind (tupleItemsOf_ ht ?_)
  refine wpAny_bind (wpAny_typeOf hTs ?_)
  rw [if_pos (by decide)]
  refine wpAny_bind (sliceApplied_rev hs ps ?_)
  have hno : ¬ ((((items.size : Int) - 1) == 0 && (-1 : Int) == 1 && items.size == items.size) = true) := by
    intro q
    rw [Bool.and_eq_true, Bool.and_eq_true] at q
    exact absurd q.1.2 (by decide)
  show wpAny _ _ (if (((items.size : Int) - 1) == 0 && (-1 : Int) == 1 && items.size == items.size) = true then _ else _) _ _ s
  rw [if_neg hno, rev_pick]
  first
    | exact wpAny_bind (m := Builtin.Tuple.tupleExact _) (wpAny_newObj_type (wpAny_pure ⟨_, rfl, wpAny_pure h⟩) htake)
    | exact wpAny_bind (m := Builtin.Tuple.tupleExact _) (wpAny_newObj_type (wpAny_bind (wpAny_pure (wpAny_pure ⟨_, rfl, wpAny_pure h⟩))) htake)
    | exact wpAny_bind (wpAny_bind (m := Builtin.Tuple.tupleExact _) (wpAny_newObj_type (wpAny_pure (wpAny_pure ⟨_, rfl, wpAny_pure h⟩)) htake))
    | exact wpAny_bind (wpAny_bind (m := Builtin.Tuple.tupleExact _) (wpAny_newObj_type (wpAny_pure ⟨_, rfl, wpAny_pure h⟩) htake))
end
section
variable {X : Cx}
def tRevT (K : PySem.W.Frag) (te : TE) : TE := fun σ H Q => te σ H fun x H1 => ∃ a xs, x = .ref a ∧ SqT K H1 a xs ∧ ∀ p, H1 p = none → Q (.ref p) (upd H1 p (.tup xs.reverse))
theorem pe_revT {e : Expr} {te : TE} {k : Nat} {p1 p2 p3 pos : Pos} (he : PE X e te) : PE X (.Subscript e (.Slice none none (some (.UnaryOp .USub (.Constant (.int 1) k p1) p2)) p3) pos) (tRevT X.K te) := by
  refine ⟨fun pins s σ H Q I h => ?_⟩
  refine Subscript_ (thn (he.run pins s σ H _ I h) fun v s1 ⟨x, H1, I1, r1, q1⟩ => ?_)
  obtain ⟨a, xs, ex, hx, q⟩ := q1
  subst ex
  cases r1
  have hst : PO X (some (.UnaryOp .USub (.Constant (.int 1) k p1) p2)) (tPart (tUn (rU fun i => .int (-i)) (tC (.int 1)))) := po_some (pe_un un_neg pe_int)
  refine wpAny_Slice (thn (po_none.run pins s1 σ H1 (fun o H2 => o = none ∧ H2 = H1) I1 ⟨rfl, rfl⟩) fun vl s2 ⟨l, H2, I2, pl, el, e2⟩ => ?_)
  subst el e2
  refine thn (po_none.run pins s2 σ H2 (fun o H3 => o = none ∧ H3 = H2) I2 ⟨rfl, rfl⟩) fun vu s3 ⟨u, H3, I3, pu, eu, e3⟩ => ?_
  subst eu e3
  refine thn (hst.run pins s3 σ H3 (fun o H4 => o = some (-1) ∧ H4 = H3) I3 ⟨1, rfl, -1, rfl, rfl, rfl⟩) fun vs s4 ⟨o, H4, I4, ps, eo, e4⟩ => ?_
  subst eo e4
  cases pl
  cases pu
  have I5 : Inv X pins σ H4 { s4 with heap := s4.heap.push { cls := .type "slice", data := .fields #[.none, .none, vs] } } := I4.kept (t' := s4.toks) fun b ob q => Heap.get?_push_of_some _ q
  obtain ⟨its, r, ht, hz⟩ := I5.tuple hx
  have hlen := r.length
  show wpAny (model X.prog X.w) X.A (subscriptTail e (.Slice none none (some (.UnaryOp .USub (.Constant (.int 1) k p1) p2)) p3) (.ref a) (.ref s4.heap.objs.size)) (EP X pins σ Q) X.xe { s4 with heap := s4.heap.push { cls := .type "slice", data := .fields #[.none, .none, vs] } }
  refine tail_any (ops := [.ref a, .ref s4.heap.objs.size]) ht.typeIs (PyProof.Rows.slot_tuple_getitem.lookup) ?_ (by with_unfolding_all rfl)
  refine getItem_tuple_rev ht (Heap.IsSliceOf.new _ .none .none vs) ps ?_ (by rw [List.size_toArray]; omega)
  refine ⟨.ref _, _, I5.laid (t' := s4.toks) (o := .tup xs.reverse) (fun b ob q => Heap.get?_push_of_some _ q) (Nat.le_refl _) ?_, rfl, q _ (I5.hok.fresh (Nat.le_refl _))⟩
  exact ⟨by rw [List.length_reverse]; exact hz, _, r.reverse, IsTup.new _ _⟩
end

section
variable {X : Cx}
/-- x[::-1], of a list and of a tuple -/
def tRevA (K : PySem.W.Frag) (te : TE) : TE := fun σ H Q => te σ H fun x H1 => ∃ a xs, x = .ref a ∧ ((SqL K H1 a xs ∧ ∀ p, H1 p = none → Q (.ref p) (upd H1 p (.lst xs.reverse))) ∨ (SqT K H1 a xs ∧ ∀ p, H1 p = none → Q (.ref p) (upd H1 p (.tup xs.reverse))))
theorem pe_revA {e : Expr} {te : TE} {k : Nat} {p1 p2 p3 pos : Pos} (he : PE X e te) : PE X (.Subscript e (.Slice none none (some (.UnaryOp .USub (.Constant (.int 1) k p1) p2)) p3) pos) (tRevA X.K te) := by
  refine ⟨fun pins s σ H Q I h => ?_⟩
  refine Subscript_ (thn (he.run pins s σ H _ I h) fun v s1 ⟨x, H1, I1, r1, q1⟩ => ?_)
  obtain ⟨a, xs, ex, hx⟩ := q1
  subst ex
  cases r1
  have hst : PO X (some (.UnaryOp .USub (.Constant (.int 1) k p1) p2)) (tPart (tUn (rU fun i => .int (-i)) (tC (.int 1)))) := po_some (pe_un un_neg pe_int)
  refine wpAny_Slice (thn (po_none.run pins s1 σ H1 (fun o H2 => o = none ∧ H2 = H1) I1 ⟨rfl, rfl⟩) fun vl s2 ⟨l, H2, I2, pl, el, e2⟩ => ?_)
  subst el e2
  refine thn (po_none.run pins s2 σ H2 (fun o H3 => o = none ∧ H3 = H2) I2 ⟨rfl, rfl⟩) fun vu s3 ⟨u, H3, I3, pu, eu, e3⟩ => ?_
  subst eu e3
  refine thn (hst.run pins s3 σ H3 (fun o H4 => o = some (-1) ∧ H4 = H3) I3 ⟨1, rfl, -1, rfl, rfl, rfl⟩) fun vs s4 ⟨o, H4, I4, ps, eo, e4⟩ => ?_
  subst eo e4
  cases pl
  cases pu
  have I5 : Inv X pins σ H4 { s4 with heap := s4.heap.push { cls := .type "slice", data := .fields #[.none, .none, vs] } } := I4.kept (t' := s4.toks) fun b ob q => Heap.get?_push_of_some _ q
  show wpAny (model X.prog X.w) X.A (subscriptTail e (.Slice none none (some (.UnaryOp .USub (.Constant (.int 1) k p1) p2)) p3) (.ref a) (.ref s4.heap.objs.size)) (EP X pins σ Q) X.xe { s4 with heap := s4.heap.push { cls := .type "slice", data := .fields #[.none, .none, vs] } }
  rcases hx with ⟨hx, q⟩ | ⟨hx, q⟩
  · obtain ⟨its, r, ht, hz⟩ := I5.list hx
    have hlen := r.length
    refine tail_any (ops := [.ref a, .ref s4.heap.objs.size]) ht.isList.typeIs (PySem.slot_list_getitem.lookup) ?_ (by with_unfolding_all rfl)
    refine wpAny_getItem_list_slice ht.isList (Heap.IsSliceOf.new _ .none .none vs) .none .none ps (by decide) ?_ (by rw [List.size_toArray]; omega)
    rw [PySem.W.krv_pick]
    refine ⟨.ref _, _, I5.laid (t' := s4.toks) (o := .lst xs.reverse) (fun b ob q => Heap.get?_push_of_some _ q) (Nat.le_refl _) ?_, rfl, q _ (I5.hok.fresh (Nat.le_refl _))⟩
    exact ⟨by rw [List.length_reverse]; exact hz, _, 0, r.reverse, Heap.get?_push_size _ rfl⟩
  · obtain ⟨its, r, ht, hz⟩ := I5.tuple hx
    have hlen := r.length
    refine tail_any (ops := [.ref a, .ref s4.heap.objs.size]) ht.typeIs (PyProof.Rows.slot_tuple_getitem.lookup) ?_ (by with_unfolding_all rfl)
    refine getItem_tuple_rev ht (Heap.IsSliceOf.new _ .none .none vs) ps ?_ (by rw [List.size_toArray]; omega)
    refine ⟨.ref _, _, I5.laid (t' := s4.toks) (o := .tup xs.reverse) (fun b ob q => Heap.get?_push_of_some _ q) (Nat.le_refl _) ?_, rfl, q _ (I5.hok.fresh (Nat.le_refl _))⟩
    exact ⟨by rw [List.length_reverse]; exact hz, _, r.reverse, IsTup.new _ _⟩
end
end Di
/-! Sets of words: set(xs), set - set, sorted, len. -/
namespace SS
open PySem PySem.Spec PyProof.Rows L2
/-- the word of an entry -/
def wd (e : Int × Value) : Str := match e.2 with
  | .str z _ => z
  | _ => ⟨#[]⟩
def IsW (w : World) (e : Int × Value) : Prop := ∃ z u, e.2 = Value.str z u ∧ e.1 = hashStr w z
/-- at a stands the set of the words l -/
def SetW (w : World) (h : Heap) (a : Addr) (l : List Str) : Prop :=
  ∃ ob es ep tb, h.get? a = some ob ∧ ob.ExactSet ∧ ob.data = .set es ep tb ∧ (∀ e ∈ es.toList, IsW w e) ∧ l.Nodup ∧ (es.toList.map wd).Perm l ∧ l.length < scanBound ∧
    tb.fits es.size = true ∧ Ris tb.place.toList ∧ (w.params.followText "set-order" = true ∨ tb.led = true)
section
variable {P : Program} {w : World} {h h' : Heap} {a : Addr} {l : List Str}
theorem SetW.on (R : SetW w h a l) (k : ∀ o, h.get? a = some o → h'.get? a = some o) : SetW w h' a l :=
  let ⟨ob, es, ep, tb, g, r⟩ := R
  ⟨ob, es, ep, tb, k ob g, r⟩
theorem isW_kind {w : World} {es : List (Int × Value)} (g : ∀ e ∈ es, IsW w e) : ElemsOf (strKind P w) es := by
  intro e he
  obtain ⟨z, u, q1, q2⟩ := g e he
  refine ⟨⟨z, ?_, q2⟩, by rw [q1] <;> rfl⟩
  rw [q1]
  show Value.isStrOf z (Value.str z u) = true
  simp [Value.isStrOf]
theorem isW_is {w : World} {e : Int × Value} (g : IsW w e) (z : Str) : (strKind P w).is z e.2 = true ↔ wd e = z := by
  obtain ⟨y, u, q1, _⟩ := g
  unfold wd
  rw [q1]
  show Value.isStrOf z (Value.str y u) = true ↔ y = z
  constructor
  · intro q
    obtain ⟨t, q⟩ := Value.isStrOf_shape q
    cases q; rfl
  · rintro rfl
    simp [Value.isStrOf]
theorem isW_mem {w : World} {es : List (Int × Value)} (g : ∀ e ∈ es, IsW w e) (z : Str) : z ∈ es.map wd ↔ ∃ e ∈ es, (strKind P w).is z e.2 = true := by
  rw [List.mem_map]
  exact ⟨fun ⟨e, m, q⟩ => ⟨e, m, (isW_is (g e m) z).mpr q⟩, fun ⟨e, m, q⟩ => ⟨e, m, (isW_is (g e m) z).mp q⟩⟩
theorem SetW.size (R : SetW w h a l) : ∃ ob es ep tb, h.get? a = some ob ∧ ob.cls = .type "set" ∧ ob.data = .set es ep tb ∧ tb.fits es.size = true ∧ es.size = l.length := by
  obtain ⟨ob, es, ep, tb, g, x, d, e, n, p, b, f, _⟩ := R
  refine ⟨ob, es, ep, tb, g, x.1, d, f, ?_⟩
  have := p.length_eq
  rw [List.length_map, Array.length_toList] at this
  exact this
/-- the set as the library knows it -/
theorem SetW.kind (R : SetW w h a l) : h.SetOf (strKind P w) a (fun z => decide (z ∈ l)) l.length := by
  obtain ⟨ob, es, ep, tb, g, x, d, e, n, p, b, f, _⟩ := R
  have sz : es.size = l.length := by
    have := p.length_eq
    rw [List.length_map, Array.length_toList] at this
    exact this
  refine ⟨ob, es, ep, tb, g, x, d, isW_kind e, fun z => ?_, by rw [sz]; exact b, f, sz⟩
  rw [decide_eq_true_eq, ← p.mem_iff, isW_mem (P := P) e]
end
/-- one more word -/
def put (l : List Str) (z : Str) : List Str := if z ∈ l then l else l ++ [z]
theorem put_nodup {l : List Str} (n : l.Nodup) (z : Str) : (put l z).Nodup := by
  unfold put
  split
  · exact n
  · rename_i q
    exact List.nodup_append.mpr ⟨n, List.nodup_cons.mpr ⟨by simp, List.nodup_nil⟩, fun x hx y hy => by
      rw [List.mem_singleton] at hy
      subst hy
      exact fun e => q (e ▸ hx)⟩
theorem mem_put {l : List Str} {x z : Str} : x ∈ put l z ↔ (x ∈ l ∨ x = z) := by
  unfold put
  split
  · rename_i q
    exact ⟨.inl, fun h => h.elim id fun e => e ▸ q⟩
  · simp
theorem put_len {l : List Str} (z : Str) : (put l z).length ≤ l.length + 1 := by
  unfold put
  split
  · omega
  · simp
section
variable {P : Program} {w : World} {A : Around} {E : Value → Shared → Prop} {s : Shared} {a : Addr} {l : List Str}
theorem put_at {h : Heap} {o : Obj} {es es' : Array (Int × Value)} {ep : Nat} {t t' : SetTable} (ho : h.get? a = some o) (hd : o.data = .set es ep t) : (h.update a (Obj.putSet es' t')).get? a = some { o with data := .set es' (ep + 1) t' } := store_at ho hd
/-- behind the laying of a new entry: the table may be laid anew -/
theorem tail_ok {g : Bool → Sem Unit} (hg : ∀ (b : Bool) (u : Shared) (Y : Unit → Shared → Prop), Y () u → wpAny (model P w) A (g b) Y E u) {ob : Obj} {es xs : Array (Int × Value)} {ep : Nat} {tb tc : SetTable} {m : List Str}
    (ho : s.heap.get? a = some ob) (hx : ob.ExactSet) (hd : ob.data = .set es ep tb) (gx : ∀ e ∈ xs.toList, IsW w e) (nd : m.Nodup) (pm : (xs.toList.map wd).Perm m) (hb : m.length < scanBound) (hf : tc.fits xs.size = true)
    (hr : Ris tc.place.toList) (hl : w.params.followText "set-order" = true ∨ tc.led = true) {dm : Bool} {R : Option Bool → Shared → Prop} (hR : ∀ h', Heap.SameBut a s.heap h' → SetW w h' a m → R (some true) { s with heap := h' }) :
    wpAny (model P w) A (do
      storeSet a xs tc
      if (!dm && tc.tooFull) = true then do
        g (relayAll tc xs (SetTable.grown xs.size)).2.2
        storeSet a (relayAll tc xs (SetTable.grown xs.size)).1 (relayAll tc xs (SetTable.grown xs.size)).2.1
        pure (some true)
      else pure (some true)) R E s := by
  have sz : xs.size = m.length := by
    have := pm.length_eq
    rw [List.length_map, Array.length_toList] at this
    exact this
  refine wpAny_bind (wpAny_storeSet_of ho hd ?_ (fits_of_scanBound (by rw [sz]; exact hb)))
  have o1 := put_at (es' := xs) (t' := tc) ho hd
  have s1 := Heap.SameBut.update s.heap a (Obj.putSet xs tc)
  by_cases q : (!dm && tc.tooFull) = true
  · rw [if_pos q]
    have p2 := relayAll_perm tc xs (SetTable.grown xs.size)
    have f2 := relayAll_fits tc xs (SetTable.grown xs.size)
    have r2 := relayAll_ris tc xs (SetTable.grown xs.size)
    have l2 := relayAll_led tc xs (SetTable.grown xs.size)
    generalize relayAll tc xs (SetTable.grown xs.size) = Z at p2 f2 r2 l2 ⊢
    obtain ⟨ys, td, gv⟩ := Z
    dsimp only at p2 f2 r2 l2 ⊢
    have sz2 : ys.size = m.length := by rw [← sz, ← Array.length_toList, p2.length_eq, Array.length_toList]
    refine wpAny_bind (hg _ _ _ (wpAny_bind (wpAny_storeSet_of o1 rfl (wpAny_pure ?_) (fits_of_scanBound (by rw [sz2]; exact hb)))))
    have o2 := put_at (es' := ys) (t' := td) o1 rfl
    refine hR _ (s1.trans (Heap.SameBut.update _ a _)) ⟨_, ys, _, td, o2, hx, rfl, fun e m => gx e (p2.mem_iff.mp m), nd, (p2.map wd).trans pm, hb, ?_, r2, hl.imp id fun z => by rw [l2]; exact z⟩
    exact f2
  · rw [if_neg q]
    exact wpAny_pure (hR _ s1 ⟨_, xs, _, tc, o1, hx, rfl, gx, nd, pm, hb, hf, hr, hl⟩)
theorem add_ok {z : Str} {u : Tok} {Q : Bool → Shared → Prop} (R : SetW w s.heap a l) (room : l.length + 1 < scanBound)
    (hQ : ∀ h', Heap.SameBut a s.heap h' → SetW w h' a (put l z) → Q (!decide (z ∈ l)) { s with heap := h' }) : wpAny (model P w) A (setAddHashed a (.str z u) (hashStr w z)) Q E s := by
  obtain ⟨ob, es, ep, tb, g, x, d, ee, n, p, b, f, r, ld⟩ := R
  have key : (strKind P w).is z (.str z u) = true := by
    show Value.isStrOf z (Value.str z u) = true
    simp [Value.isStrOf]
  have sc : (Value.str z u).scannable = true := rfl
  have el : ElemsOf (strKind P w) es.toList := isW_kind ee
  have sz : es.size = l.length := by
    have := p.length_eq
    rw [List.length_map, Array.length_toList] at this
    exact this
  unfold setAddHashed setAddHashedIn
  refine wpAny_holding (wpAny_bind (wpAny_setState_of g d f ?_))
  dsimp only
  rw [byScan_of sc (by rw [sz]; exact b) el]
  simp only [if_true]
  unfold setAddByScan
  refine wpAny_bind (wpAny_bind (wpAny_rule (wpAny_bind ?_)))
  refine wpAny_setScan_of (k := z) key g d f el ?_
  cases fi : List.findIdx? (fun e => (strKind P w).is z e.2) es.toList with
  | some j =>
    obtain ⟨lt, pj, _⟩ := List.findIdx?_eq_some_iff_getElem.mp fi
    have there : z ∈ l := p.mem_iff.mp ((isW_mem (P := P) ee z).mpr ⟨_, List.getElem_mem lt, pj⟩)
    refine wpAny_pure (wpAny_pure ?_)
    have q := hQ s.heap (Heap.SameBut.refl a s.heap) (by unfold put; rw [if_pos there]; exact ⟨ob, es, ep, tb, g, x, d, ee, n, p, b, f, r, ld⟩)
    rw [decide_eq_true there] at q
    exact q
  | none =>
    have away : z ∉ l := fun m => by
      obtain ⟨e, me, q⟩ := (isW_mem (P := P) ee z).mp (p.mem_iff.mpr m)
      have := List.findIdx?_eq_none_iff.mp fi e me
      rw [q] at this; cases this
    have gw : ∀ (v : Bool) {v1 : Shared} {Y : Unit → Shared → Prop}, Y () v1 → wpAny (model P w) A (match v with | true => rule "set.scan.the-table-gave-way" | false => pure ()) Y E v1 := fun v v1 Y y => by
      cases v
      · exact wpAny_pure y
      · exact wpAny_rule y
    have pn := layNew_perm tb es (hashStr w z) (.str z u)
    have fn := layNew_fits tb es (hashStr w z) (.str z u)
    have rn := layNew_ris tb es (hashStr w z) (.str z u) r
    have ln := layNew_led tb es (hashStr w z) (.str z u)
    dsimp only
    show wpAny _ _ (match layNew tb es (hashStr w z) (.str z u) with | _ => _) _ _ _
    generalize layNew tb es (hashStr w z) (.str z u) = Z at pn fn rn ln ⊢
    obtain ⟨xs, tc, dm, gv⟩ := Z
    dsimp only at pn fn rn ln ⊢
    rw [Array.toList_push] at pn
    have pc : (xs.toList.map wd).Perm (put l z) := by
      refine (pn.map wd).trans ?_
      unfold put
      rw [if_neg away, List.map_append]
      exact p.append_right _
    have gx : ∀ e ∈ xs.toList, IsW w e := fun e me => by
      rcases List.mem_append.mp (pn.mem_iff.mp me) with m | m
      · exact ee e m
      · rw [List.mem_singleton] at m; subst m; exact ⟨z, u, rfl, rfl⟩
    have hb : (put l z).length < scanBound := by have := put_len (l := l) z; omega
    have ld2 : w.params.followText "set-order" = true ∨ tc.led = true := ld.imp id fun q => by rw [ln]; exact q
    have fin : ∀ h', Heap.SameBut a s.heap h' → SetW w h' a (put l z) → Q true { s with heap := h' } := fun h' sb R' => by
      have := hQ h' sb R'
      rw [decide_eq_false away] at this
      exact this
    refine wpAny_bind (gw _ ?_)
    split
    · refine wpAny_bind ?_
      rw [hashByValue_scannable 8 sc]
      refine wpAny_pure (tail_ok ?_ g x d gx (put_nodup n z) pc hb ?_ ?_ ?_ fun h' sb R' => wpAny_pure (fin h' sb R'))
      · intro v v1 Y y; cases v <;> first | exact wpAny_pure y | exact wpAny_rule y
      · first | (split <;> first | exact fn | exact SetTable.fits_plain_off fn) | exact fn
      · first | (split <;> exact rn) | exact rn
      · first | (split <;> exact ld2) | exact ld2
    · refine wpAny_bind (wpAny_pure ?_)
      simp only [if_true]
      refine tail_ok ?_ g x d gx (put_nodup n z) pc hb fn rn ld2 fun h' sb R' => wpAny_pure (fin h' sb R')
      intro v v1 Y y; cases v <;> first | exact wpAny_pure y | exact wpAny_rule y
end
end SS
namespace SS
open PySem PySem.Spec PyProof.Rows L2
/-- the words of zs, each once, as they are first met -/
def once (zs : List Str) : List Str := zs.foldl put []
theorem foldl_put_mem {x : Str} : ∀ {zs l : List Str}, x ∈ zs.foldl put l ↔ (x ∈ l ∨ x ∈ zs)
  | [], l => by simp
  | z :: zs, l => by
    rw [List.foldl_cons, foldl_put_mem, mem_put, List.mem_cons]
    exact or_assoc
theorem foldl_put_nodup : ∀ {zs l : List Str}, l.Nodup → (zs.foldl put l).Nodup
  | [], l, h => h
  | z :: zs, l, h => foldl_put_nodup (zs := zs) (l := put l z) (put_nodup h z)
theorem foldl_put_len : ∀ {zs l : List Str}, (zs.foldl put l).length ≤ l.length + zs.length
  | [], l => by simp
  | z :: zs, l => by
    have h := foldl_put_len (zs := zs) (l := put l z)
    have g := put_len (l := l) z
    rw [List.foldl_cons, List.length_cons]
    omega
theorem mem_once {x : Str} {zs : List Str} : x ∈ once zs ↔ x ∈ zs := by unfold once; rw [foldl_put_mem]; simp
theorem once_nodup (zs : List Str) : (once zs).Nodup := foldl_put_nodup List.nodup_nil
theorem once_len (zs : List Str) : (once zs).length ≤ zs.length := by have := foldl_put_len (zs := zs) (l := []); simpa [once] using this
section
variable {P : Program} {w : World} {A : Around} {E : Value → Shared → Prop} {s : Shared} {a : Addr} {l : List Str}
/-- the empty set, as it is laid -/
abbrev mty (w : World) : Obj := { cls := .type "set", dict := none, data := .set #[] 0 (.fresh 0 0 (!w.params.followText "set-order")) }
theorem mty_ok {h : Heap} (g : h.get? a = some (mty w)) : SetW w h a [] :=
  ⟨_, #[], 0, _, g, ⟨rfl, rfl, rfl⟩, rfl, (fun e m => by simp at m), List.nodup_nil, by simp, by decide, by rfl, List.Pairwise.nil, by
    show _ ∨ (!w.params.followText "set-order") = true
    cases w.params.followText "set-order"
    · exact .inr rfl
    · exact .inl rfl⟩
theorem fill_ok {I : Addr} {fp wr : List Addr} {G : Array GenState → Array GenState → Prop} {Pv : Nat → Value → Prop} {St : Nat → Shared → Prop} {R : Result → Shared → Prop} {n : Nat} (zs : List Str)
    (W : WalksS P w A.in1 I fp wr G n Pv St) (hn : n = zs.length) (off : a ∉ fp) (room : l.length + zs.length + 1 < scanBound) (hv : ∀ i v, Pv i v → ∃ z u, zs[i]? = some z ∧ v = .str z u) :
    ∀ (k i : Nat) (s : Shared), zs.length - i = k → i ≤ zs.length → St i s → SetW w s.heap a ((zs.take i).foldl put l) →
      (∀ s', Moved (a :: wr) G s s' → SetW w s'.heap a (zs.foldl put l) → R (.ok (.ret .none)) s') → codeAny (model P w) A (.builtin "set.update.loop" ⟨[.ref a, .ref I], []⟩) R s := by
  subst hn
  have offw : a ∉ wr := fun m => off (W.sub _ m)
  have more : ∀ b ∈ wr, b ∈ a :: wr := fun b m => List.mem_cons_of_mem _ m
  intro k
  induction k with
  | zero =>
    intro i s e le st S fin
    have ie : i = zs.length := by omega
    subst ie
    refine codeAny_builtin F.entry_set_update_loop ?_
    rw [Around.under_plainId F.plain_set_update_loop _]
    show wpAny _ A.in1 (pyNext (.ref I) >>= _) _ _ s
    refine wpAny_bind (W.done s _ _ st fun s' mv => ?_)
    show wpAny _ A.in1 (ret Value.none) _ _ s'
    rw [List.take_length] at S
    exact wpAny_pure (fin s' (mv.mono more) (S.on fun o q => mv.heap a o offw q))
  | succ k ih =>
    intro i s e le st S fin
    have lt : i < zs.length := by omega
    refine codeAny_builtin F.entry_set_update_loop ?_
    rw [Around.under_plainId F.plain_set_update_loop _]
    show wpAny _ A.in1 (pyNext (.ref I) >>= _) _ _ s
    refine wpAny_bind (W.item i s _ _ lt st fun v s' pv st' mv => ?_)
    obtain ⟨z, u, hz, rfl⟩ := hv i v pv
    have S1 : SetW w s'.heap a ((zs.take i).foldl put l) := S.on fun o q => mv.heap a o offw q
    show wpAny _ A.in1 (holding [Value.str z u] (setAdd a (.str z u)) >>= _) _ _ s'
    refine wpAny_bind (wpAny_holding ?_)
    unfold setAdd
    refine wpAny_holding (wpAny_bind (wpAny_pyHash_str ?_))
    have len : ((zs.take i).foldl put l).length + 1 < scanBound := by
      have := foldl_put_len (zs := zs.take i) (l := l)
      rw [List.length_take] at this
      omega
    refine add_ok (s := { s' with toks := s'.toks + 1 }) S1 len fun h' sb S2 => ?_
    have S3 : SetW w h' a ((zs.take (i + 1)).foldl put l) := by
      rw [List.take_add_one, hz, List.foldl_append]
      exact S2
    refine wpAny_pure ⟨plainId_quiet F.plain_set_update_loop _, ih (i + 1) _ (by omega) lt (W.frame _ s' _ _ st' (Nat.le_succ _) fun b m o q => ?_) S3 fun s2 mv2 S4 => fin s2 ?_ S4⟩
    · rw [sb.2 b (fun z : b = a => off (z ▸ m))]; exact q
    · refine Moved.trans W.gtrans ((mv.mono more).then_heap (Nat.le_succ _) fun b o m q => ?_) mv2
      rw [sb.2 b (fun z => m (by rw [z]; exact List.mem_cons_self))]; exact q
/-- set(x), where filling the new set from x goes well -/
theorem make_ok {x : Value} {Q : Value → Shared → Prop} {m : List Str}
    (fl : ∀ (A' : Around) (E' : Value → Shared → Prop) (Y : Unit → Shared → Prop), A'.handled = A.handled →
      (∀ h' t, SetW w h' s.heap.objs.size m → (∀ b o, s.heap.get? b = some o → h'.get? b = some o) → Y () { s with heap := h', toks := t }) →
      wpAny (model P w) A' (Builtin.Frozenset.updateFrom "set.__init__" s.heap.objs.size x) Y E' { s with heap := s.heap.push (mty w) })
    (hQ : ∀ h' t, SetW w h' s.heap.objs.size m → (∀ b o, s.heap.get? b = some o → h'.get? b = some o) → Q (.ref s.heap.objs.size) { s with heap := h', toks := t }) :
    wpAny (model P w) A (call (.type "set") [x]) Q E s := by
  have ⟨cc, tl, mr⟩ := F.called_set.mro
  have md := F.called_set.made
  have sb := F.called_set.sub
  have nt := F.called_set.notType
  have cr := F.called_set.canCreate
  have ct := F.typeCall_set_1 x
  refine wpAny_call (codeAny_of_tree ?_)
  show wpAny _ _ (callAny (.type "set") _) _ _ _
  refine wpAny_pure ⟨Code.quiet_builtin _ (by decide +kernel), codeAny_builtin F.entry_type_call ?_⟩
  rw [Around.under_plain (weight_type_call_type "set" [x] []) rfl]
  repeat (any_goals first | assumption | wp_step)
  refine codeAny_mono (code_set_led1 x (E := E) (Q₁ := fun ob u => ob = .ref s.heap.objs.size ∧ u = { s with heap := s.heap.push (mty w) }) ⟨rfl, rfl⟩) fun r u hr => ?_
  cases r with
  | error e => exact hr
  | ok f =>
    cases f with
    | ret ob =>
      obtain ⟨rfl, rfl⟩ := hr
      have at0 : (s.heap.push (mty w)).get? s.heap.objs.size = some (mty w) := Heap.get?_push_size _ rfl
      have ty : Shared.TypeIs { s with heap := s.heap.push (mty w) } (.ref s.heap.objs.size) "set" := ⟨_, at0, rfl⟩
      have lk := F.called_set.init.lookup
      have bd := F.called_set.init.bind (.ref s.heap.objs.size)
      repeat (any_goals first | assumption | wp_step)
      refine codeAny_mono (codeAny_call_builtin (R := wants (fun r u2 => r = .none ∧ ∃ h' t, u2 = { s with heap := h', toks := t } ∧ SetW w h' s.heap.objs.size m ∧ ∀ b o, s.heap.get? b = some o → h'.get? b = some o) E) F.called_set.init.plain F.entry_set_init (check_set_init_1 ty ?_)) fun r2 u2 hr2 => ?_
      · unfold Builtin.«set.__init__» noKeywords
        generalize hU : Builtin.Frozenset.updateFrom = U
        wp_walk
        subst hU
        refine fl _ _ _ (by rfl) fun h' t S k => ?_
        show wpAny _ _ (ret Value.none) _ _ _
        exact wpAny_pure ⟨rfl, h', t, rfl, S, k⟩
      · cases r2 with
        | error e => exact hr2
        | ok f2 =>
          cases f2 with
          | ret v =>
            obtain ⟨rfl, h', t, rfl, S, k⟩ := hr2
            repeat (any_goals first | assumption | wp_step)
            exact hQ _ _ S k
          | _ => exact hr2.elim
    | _ => exact hr.elim
end
end SS
namespace SS
open PySem PySem.Spec PyProof.Rows L2
section
variable {P : Program} {w : World} {A : Around} {E : Value → Shared → Prop} {s : Shared} {a : Addr} {l : List Str}
/-- the values of a source are the words zs -/
def WsAre (xs : List Value) (zs : List Str) : Prop := ∀ i : Nat, (xs[i]? = none ↔ zs[i]? = none) ∧ ∀ v, xs[i]? = some v → ∃ (z : Str) (u : Tok), zs[i]? = some z ∧ v = Value.str z u
theorem WsAre.len {xs : List Value} {zs : List Str} (h : WsAre xs zs) : xs.length = zs.length := by
  rcases Nat.lt_trichotomy xs.length zs.length with q | q | q
  · have := (h xs.length).1.mp (List.getElem?_eq_none (Nat.le_refl _))
    rw [List.getElem?_eq_none_iff] at this; omega
  · exact q
  · have := (h zs.length).1.mpr (List.getElem?_eq_none (Nat.le_refl _))
    rw [List.getElem?_eq_none_iff] at this; omega
set_option hygiene false in
theorem set_of_list {q : Addr} {xs : Array Value} {zs : List Str} {Q : Value → Shared → Prop} (hc : A.handled = none) (hl : s.heap.IsList q xs) (hz : WsAre xs.toList zs) (room : zs.length + 1 < scanBound)
    (hQ : ∀ h' t, SetW w h' s.heap.objs.size (once zs) → (∀ b o, s.heap.get? b = some o → h'.get? b = some o) → Q (.ref s.heap.objs.size) { s with heap := h', toks := t }) :
    wpAny (model P w) A (call (.type "set") [.ref q]) Q E s := by
  refine make_ok (m := once zs) (fun A' E' Y hA fin => ?_) hQ
  have at0 : (s.heap.push (mty w)).get? s.heap.objs.size = some (mty w) := Heap.get?_push_size _ rfl
  have ⟨ob, g, cl, n, dt⟩ := hl
  obtain ⟨c0, d0, t0, s0⟩ := ob
  dsimp only at cl dt
  subst cl dt
  have hl' : (s.heap.push (mty w)).get? q = some { cls := .type "list", dict := d0, data := .seq xs n, slots := s0 } := Heap.get?_push_of_some _ g
  have isl : (s.heap.push (mty w)).IsList q xs := ⟨_, hl', rfl, n, rfl⟩
  have q1 := F.sub_list_set
  have q2 := F.sub_list_frozenset
  have q3 : (Value.type "list" == Value.type "dict") = false := by decide
  have qlt : q < s.heap.objs.size := Heap.lt_size g
  have zl := hz.len
  rw [Array.length_toList] at zl
  unfold Builtin.Frozenset.updateFrom
  generalize hI : pyIter = I
  wp_walk
  subst hI
  refine wpAny_pyIter_list isl (wpAny_bind (wpAny_runValue ?_))
  have pz : (s.heap.push (mty w)).objs.size = s.heap.objs.size + 1 := Heap.size_push ..
  have ne1 : q ≠ (s.heap.push (mty w)).objs.size := by rw [pz]; exact Nat.ne_of_lt (Nat.lt_succ_of_lt qlt)
  have off : s.heap.objs.size ∉ [(s.heap.push (mty w)).objs.size, q] := by
    rw [pz]
    intro m
    rcases List.mem_cons.mp m with m | m
    · exact absurd m (Nat.ne_of_lt (Nat.lt_succ_self _))
    · exact absurd (List.mem_singleton.mp m) (Nat.ne_of_gt qlt)
  have nh : A'.in1.handled = none := by
    first | exact hA.trans hc | (show A'.handled = none; exact hA.trans hc)
  refine fill_ok (l := []) zs ((Walks.list nh _ q ne1 xs).toS) zl off (by simpa using room) (fun i v pv => (hz i).2 v (by rw [Array.getElem?_toList]; exact pv)) _ 0 _ rfl (Nat.zero_le _) ⟨⟨_, Heap.get?_push_size _ rfl, rfl, rfl⟩, isl.push _⟩ (mty_ok (Heap.get?_push_of_some _ at0)) fun s' mv S => ?_
  obtain ⟨h', g', d', t', o'⟩ := s'
  have e1 : g' = s.gens := mv.gens
  have e2 : d' = s.drawn := mv.drawn
  have e3 : o' = s.os := mv.os
  subst e1 e2 e3
  refine wpAny_pure (fin _ _ S fun b o e => ?_)
  have lt := Heap.lt_size e
  refine mv.heap b o (fun m => ?_) (Heap.get?_push_of_some _ (Heap.get?_push_of_some _ e))
  rw [pz] at m
  rcases List.mem_cons.mp m with m | m
  · exact absurd m (Nat.ne_of_lt lt)
  · exact absurd (List.mem_singleton.mp m) (Nat.ne_of_lt (Nat.lt_succ_of_lt lt))
set_option hygiene false in
theorem set_of_tup {q : Addr} {xs : Array Value} {zs : List Str} {Q : Value → Shared → Prop} (hc : A.handled = none) (hl : s.heap.IsTuple q xs) (hz : WsAre xs.toList zs) (room : zs.length + 1 < scanBound)
    (hQ : ∀ h' t, SetW w h' s.heap.objs.size (once zs) → (∀ b o, s.heap.get? b = some o → h'.get? b = some o) → Q (.ref s.heap.objs.size) { s with heap := h', toks := t }) :
    wpAny (model P w) A (call (.type "set") [.ref q]) Q E s := by
  refine make_ok (m := once zs) (fun A' E' Y hA fin => ?_) hQ
  have at0 : (s.heap.push (mty w)).get? s.heap.objs.size = some (mty w) := Heap.get?_push_size _ rfl
  have ⟨ob, g, cl, n, dt⟩ := hl
  obtain ⟨c0, d0, t0, s0⟩ := ob
  dsimp only at cl dt
  subst cl dt
  have hl' : (s.heap.push (mty w)).get? q = some { cls := .type "tuple", dict := d0, data := .seq xs n, slots := s0 } := Heap.get?_push_of_some _ g
  have isl : (s.heap.push (mty w)).IsTuple q xs := ⟨_, hl', rfl, n, rfl⟩
  have q1 := F.sub_tuple_set
  have q2 := F.sub_tuple_frozenset
  have q3 : (Value.type "tuple" == Value.type "dict") = false := by decide
  have qlt : q < s.heap.objs.size := Heap.lt_size g
  have zl := hz.len
  rw [Array.length_toList] at zl
  unfold Builtin.Frozenset.updateFrom
  generalize hI : pyIter = I
  wp_walk
  subst hI
  refine wpAny_pyIter_tuple isl (wpAny_bind (wpAny_runValue ?_))
  have pz : (s.heap.push (mty w)).objs.size = s.heap.objs.size + 1 := Heap.size_push ..
  have ne1 : q ≠ (s.heap.push (mty w)).objs.size := by rw [pz]; exact Nat.ne_of_lt (Nat.lt_succ_of_lt qlt)
  have off : s.heap.objs.size ∉ [(s.heap.push (mty w)).objs.size, q] := by
    rw [pz]
    intro m
    rcases List.mem_cons.mp m with m | m
    · exact absurd m (Nat.ne_of_lt (Nat.lt_succ_self _))
    · exact absurd (List.mem_singleton.mp m) (Nat.ne_of_gt qlt)
  have nh : A'.in1.handled = none := by
    first | exact hA.trans hc | (show A'.handled = none; exact hA.trans hc)
  refine fill_ok (l := []) zs ((Walks.tuple nh _ q ne1 xs).toS) zl off (by simpa using room) (fun i v pv => (hz i).2 v (by rw [Array.getElem?_toList]; exact pv)) _ 0 _ rfl (Nat.zero_le _) ⟨⟨_, Heap.get?_push_size _ rfl, rfl, rfl⟩, isl.push _⟩ (mty_ok (Heap.get?_push_of_some _ at0)) fun s' mv S => ?_
  obtain ⟨h', g', d', t', o'⟩ := s'
  have e1 : g' = s.gens := mv.gens
  have e2 : d' = s.drawn := mv.drawn
  have e3 : o' = s.os := mv.os
  subst e1 e2 e3
  refine wpAny_pure (fin _ _ S fun b o e => ?_)
  have lt := Heap.lt_size e
  refine mv.heap b o (fun m => ?_) (Heap.get?_push_of_some _ (Heap.get?_push_of_some _ e))
  rw [pz] at m
  rcases List.mem_cons.mp m with m | m
  · exact absurd m (Nat.ne_of_lt lt)
  · exact absurd (List.mem_singleton.mp m) (Nat.ne_of_lt (Nat.lt_succ_of_lt lt))
end
end SS
/-! Tables of sets: laying words anew always finds room. -/
namespace SS
open PySem PySem.Spec PyProof.Rows L2
/-- the sizes that occur -/
def Msk (m : Nat) : Prop := m = 7 ∨ m = 15 ∨ m = 31 ∨ m = 63 ∨ m = 127
def stp (m i : Nat) : Nat := (i * 5 + 1) % (m + 1)
def itr (m : Nat) : Nat → Nat → Nat
  | i, 0 => i
  | i, n + 1 => itr m (stp m i) n
theorem itr_add (m : Nat) : ∀ (a b i : Nat), itr m i (a + b) = itr m (itr m i a) b
  | 0, b, i => by rw [Nat.zero_add]; rfl
  | a + 1, b, i => by
    rw [show a + 1 + b = (a + b) + 1 by omega]
    show itr m (stp m i) (a + b) = itr m (itr m (stp m i) a) b
    exact itr_add m a b _
theorem orb (m : Nat) (h : Msk m) : ((List.range (m + 1)).all fun j => (List.range (m + 1)).any fun k => itr m 0 k == j) = true ∧ itr m 0 (m + 1) = 0 := by
  rcases h with rfl | rfl | rfl | rfl | rfl <;> exact ⟨by decide +kernel, by decide +kernel⟩
theorem orb_get {m j : Nat} (h : Msk m) (hj : j ≤ m) : ∃ k, k ≤ m ∧ itr m 0 k = j := by
  have q := (orb m h).1
  rw [List.all_eq_true] at q
  have q := q j (List.mem_range.mpr (by omega))
  rw [List.any_eq_true] at q
  obtain ⟨k, hk, e⟩ := q
  exact ⟨k, by have := List.mem_range.mp hk; omega, eq_of_beq e⟩
theorem orb_from {m i j : Nat} (h : Msk m) (hi : i ≤ m) (hj : j ≤ m) : ∃ k, k ≤ m ∧ itr m i k = j := by
  obtain ⟨a, ha, ea⟩ := orb_get h hi
  obtain ⟨b, hb, eb⟩ := orb_get h hj
  by_cases q : a ≤ b
  · refine ⟨b - a, by omega, ?_⟩
    rw [← ea, ← itr_add, show a + (b - a) = b by omega, eb]
  · refine ⟨m + 1 + b - a, by omega, ?_⟩
    rw [← ea, ← itr_add, show a + (m + 1 + b - a) = (m + 1) + b by omega, itr_add, (orb m h).2, eb]
/-- where the n-th leap leads -/
def lps (m : Nat) : Nat → Nat → Nat → Nat × Nat
  | 0, i, p => (i, p)
  | n + 1, i, p => lps m n (SetTable.leap m i p).1 (SetTable.leap m i p).2
theorem lps_snd (m : Nat) : ∀ (n i p : Nat), (lps m n i p).2 = p / 32 ^ n
  | 0, i, p => by simp [lps]
  | n + 1, i, p => by
    show (lps m n _ (p / 32)).2 = _
    rw [lps_snd m n, Nat.div_div_eq_div_mul, Nat.pow_succ, Nat.mul_comm]
theorem lps_le (m : Nat) : ∀ (n i p : Nat), i ≤ m → (lps m n i p).1 ≤ m
  | 0, i, p, h => h
  | n + 1, i, p, h => lps_le m n _ _ (by show (i * 5 + 1 + p / 32) % (m + 1) ≤ m; exact Nat.le_of_lt_succ (Nat.mod_lt _ (Nat.succ_pos _)))
theorem lps_zero (m : Nat) : ∀ (n i : Nat), (lps m n i 0).1 = itr m i n
  | 0, i => rfl
  | n + 1, i => lps_zero m n _
theorem lps_add (m : Nat) : ∀ (a b i p : Nat), lps m (a + b) i p = lps m b (lps m a i p).1 (lps m a i p).2
  | 0, b, i, p => by rw [Nat.zero_add]; rfl
  | a + 1, b, i, p => by
    rw [show a + 1 + b = (a + b) + 1 by omega]
    exact lps_add m a b _ _
abbrev emp (ow : Array (Option Nat)) (j : Nat) : Bool := (ow.getD j (some 0)).isNone
theorem fr_succ (m : Nat) (ow : Array (Option Nat)) (f i p : Nat) : SetTable.layClean.free m ow (f + 1) i p = match (List.range (SetTable.runEnd m i + 1 - i)).find? fun k => emp ow (i + k) with
    | some k => some (i + k)
    | none => SetTable.layClean.free m ow f (SetTable.leap m i p).1 (SetTable.leap m i p).2 := rfl
theorem run_ge (m i : Nat) : i ≤ SetTable.runEnd m i := by unfold SetTable.runEnd; split <;> omega
theorem run_le {m i : Nat} (h : i ≤ m) : SetTable.runEnd m i ≤ m := by unfold SetTable.runEnd; split <;> omega
theorem fr_none {m : Nat} {ow : Array (Option Nat)} : ∀ (f i p : Nat), SetTable.layClean.free m ow f i p = none → ∀ t, t < f → emp ow (lps m t i p).1 = false
  | 0, i, p, _, t, h => by omega
  | f + 1, i, p, e, t, h => by
    rw [fr_succ] at e
    split at e
    · cases e
    · rename_i q
      cases t with
      | zero =>
        have := List.find?_eq_none.mp q 0 (List.mem_range.mpr (by have := run_ge m i; omega))
        have z : ¬ emp ow (i + 0) = true := this
        rw [Nat.add_zero] at z
        exact eq_false_of_ne_true z
      | succ t => exact fr_none f _ _ e t (by omega)
theorem fr_some {m : Nat} {ow : Array (Option Nat)} : ∀ (f i p j : Nat), i ≤ m → SetTable.layClean.free m ow f i p = some j → j ≤ m ∧ emp ow j = true
  | 0, i, p, j, _, e => by cases e
  | f + 1, i, p, j, h, e => by
    rw [fr_succ] at e
    split at e
    · rename_i k q
      cases e
      have a := List.find?_some q
      have b := List.mem_range.mp (List.mem_of_find?_eq_some q)
      have c := run_le h
      exact ⟨by omega, a⟩
    · exact fr_some f _ _ j (by show (i * 5 + 1 + p / 32) % (m + 1) ≤ m; exact Nat.le_of_lt_succ (Nat.mod_lt _ (Nat.succ_pos _))) e
/-- a free slot is found where there is one -/
theorem fr_ok {m : Nat} (hm : Msk m) {ow : Array (Option Nat)} {h : Int} {j : Nat} (hj : j ≤ m) (he : emp ow j = true) :
    ∃ k, SetTable.layClean.free m ow (SetTable.turns m) (SetTable.bits h % (m + 1)) (SetTable.bits h) = some k ∧ k ≤ m ∧ emp ow k = true := by
  have i0 : SetTable.bits h % (m + 1) ≤ m := Nat.le_of_lt_succ (Nat.mod_lt _ (Nat.succ_pos _))
  cases q : SetTable.layClean.free m ow (SetTable.turns m) (SetTable.bits h % (m + 1)) (SetTable.bits h) with
  | some k => exact ⟨k, rfl, fr_some _ _ _ _ i0 q⟩
  | none =>
    exfalso
    have z : (lps m 13 (SetTable.bits h % (m + 1)) (SetTable.bits h)).2 = 0 := by
      rw [lps_snd]
      refine Nat.div_eq_of_lt (Nat.lt_of_lt_of_le (bits_lt h) ?_)
      decide
    obtain ⟨k, hk, ek⟩ := orb_from hm (lps_le m 13 _ (SetTable.bits h) i0) hj
    have := fr_none _ _ _ q (13 + k) (by unfold SetTable.turns; omega)
    rw [lps_add, z, lps_zero, ek, he] at this
    cases this
theorem fm_set {xs : List (Option Nat)} {k : Nat} : ∀ {j : Nat}, xs[j]? = some none → ((xs.set j (some k)).filterMap id).Perm (k :: xs.filterMap id) := by
  induction xs with
  | nil => intro j h; simp at h
  | cons x xs ih =>
    intro j h
    cases j with
    | zero =>
      have e : x = none := by simpa using h
      subst e
      simp
    | succ j =>
      have := ih (j := j) (by simpa using h)
      cases x with
      | none => simpa using this
      | some y =>
        simp only [List.set_cons_succ, List.filterMap_cons_some (f := id) (a := some y) rfl]
        exact (this.cons y).trans (List.Perm.swap k y _)
/-- n words are laid -/
structure Lay (m n : Nat) (ow : Array (Option Nat)) : Prop where
  sz : ow.size = m + 1
  pm : (ow.toList.filterMap id).Perm (List.range n)
theorem Lay.room {m n : Nat} {ow : Array (Option Nat)} (L : Lay m n ow) (h : n ≤ m) : ∃ j, j ≤ m ∧ emp ow j = true := by
  by_cases q : ∃ j, j ≤ m ∧ emp ow j = true
  · exact q
  · exfalso
    have full : ∀ x ∈ ow.toList, ∃ y, x = some y := fun x hx => by
      obtain ⟨j, hj, e⟩ := List.getElem_of_mem hx
      rw [Array.length_toList] at hj
      cases x with
      | some y => exact ⟨y, rfl⟩
      | none =>
        refine absurd ⟨j, by have := L.sz; omega, ?_⟩ q
        have e' : ow[j] = none := by simpa using e
        show (ow.getD j (some 0)).isNone = true
        rw [Array.getD_eq_getD_getElem?, Array.getElem?_eq_getElem hj, e']
        rfl
    have len : ∀ {l : List (Option Nat)}, (∀ x ∈ l, ∃ y, x = some y) → (l.filterMap id).length = l.length := by
      intro l
      induction l with
      | nil => intro _; rfl
      | cons x l ih =>
        intro g
        obtain ⟨y, rfl⟩ := g _ List.mem_cons_self
        rw [List.filterMap_cons_some (f := id) (b := y) rfl, List.length_cons, List.length_cons, ih fun z hz => g z (List.mem_cons_of_mem _ hz)]
    have a := len full
    rw [L.pm.length_eq, List.length_range, Array.length_toList, L.sz] at a
    omega
def lay1 (m : Nat) (acc : Option (Array (Option Nat) × Nat)) (h : Int) : Option (Array (Option Nat) × Nat) :=
  acc.bind fun x => (SetTable.layClean.free m x.1 (SetTable.turns m) (SetTable.bits h % (m + 1)) (SetTable.bits h)).bind fun j => some (x.1.setIfInBounds j (some x.2), x.2 + 1)
theorem lay_all {m : Nat} (hm : Msk m) : ∀ (hs : List Int) (n : Nat) (ow : Array (Option Nat)), Lay m n ow → n + hs.length ≤ m + 1 → ∃ ow', hs.foldl (lay1 m) (some (ow, n)) = some (ow', n + hs.length) ∧ Lay m (n + hs.length) ow'
  | [], n, ow, L, _ => ⟨ow, rfl, L⟩
  | h :: hs, n, ow, L, hn => by
    rw [List.length_cons] at hn
    obtain ⟨j, hj, ej⟩ := L.room (by omega)
    obtain ⟨k, e, hk, ek⟩ := fr_ok hm (h := h) hj ej
    have at_ : ow.toList[k]? = some none := by
      have lt : k < ow.size := by rw [L.sz]; omega
      have ek : (ow.getD k (some 0)).isNone = true := ek
      rw [Array.getD_eq_getD_getElem?, Array.getElem?_eq_getElem lt] at ek
      rw [Array.getElem?_toList, Array.getElem?_eq_getElem lt]
      have ek : ow[k].isNone = true := ek
      rw [Option.isNone_iff_eq_none.mp ek]
    have L' : Lay m (n + 1) (ow.setIfInBounds k (some n)) := by
      refine ⟨by rw [Array.size_setIfInBounds]; exact L.sz, ?_⟩
      rw [Array.toList_setIfInBounds]
      refine (fm_set at_).trans ?_
      rw [List.range_succ]
      exact (L.pm.cons n).trans (List.perm_append_singleton n _).symm
    obtain ⟨ow', f, Lf⟩ := lay_all hm hs (n + 1) _ L' (by omega)
    refine ⟨ow', ?_, ?_⟩
    · rw [List.foldl_cons, List.length_cons, show n + (hs.length + 1) = n + 1 + hs.length by omega, ← f]
      show List.foldl (lay1 m) ((SetTable.layClean.free m ow (SetTable.turns m) (SetTable.bits h % (m + 1)) (SetTable.bits h)).bind _) hs = _
      rw [e]
      rfl
    · rw [List.length_cons, show n + (hs.length + 1) = n + 1 + hs.length by omega]
      exact Lf
theorem lay_none (m : Nat) : Lay m 0 (Array.replicate (m + 1) none) := by
  refine ⟨Array.size_replicate, ?_⟩
  rw [Array.toList_replicate]
  have : ∀ n : Nat, (List.replicate n (none : Option Nat)).filterMap id = [] := fun n => by
    induction n with
    | zero => rfl
    | succ n ih => rw [List.replicate_succ, List.filterMap_cons_none rfl, ih]
  rw [this]
  exact List.Perm.refl _
theorem layClean_is (m : Nat) (hs : Array Int) : SetTable.layClean m hs = (hs.toList.foldl (lay1 m) (some (Array.replicate (m + 1) none, 0))).map (·.1) := by
  unfold SetTable.layClean
  rw [← Array.foldl_toList]
  rfl
theorem fm_range : ∀ (xs : List (Option Nat)), (List.range xs.length).filterMap (fun j => xs.getD j none) = xs.filterMap id := by
  intro xs
  induction xs with
  | nil => rfl
  | cons x xs ih =>
    rw [List.length_cons, List.range_succ_eq_map, List.filterMap_cons, List.filterMap_map]
    have e : (fun j => (x :: xs).getD j none) ∘ Nat.succ = fun j => xs.getD j none := by funext j; rfl
    rw [e, ih]
    cases x <;> rfl
/-- what a laying gives -/
theorem laid_is {m f v : Nat} {ld pl : Bool} {hs : Array Int} (h : hs.size = 0 ∨ (Msk m ∧ hs.size ≤ m)) : ∃ t o, SetTable.laid m f v ld pl hs = some (t, o) ∧ o.toList.Perm (List.range hs.size) ∧ t.place.size = hs.size ∧ Ris t.place.toList ∧ t.mask = m ∧ t.dummies = #[] ∧ t.led = ld ∧ t.plain = pl := by
  obtain ⟨ow, e, L⟩ : ∃ ow, SetTable.layClean m hs = some ow ∧ Lay m hs.size ow := by
    rcases h with h | ⟨h, g⟩
    · have : hs = #[] := Array.eq_empty_of_size_eq_zero h
      subst this
      exact ⟨_, by rw [layClean_is]; rfl, lay_none m⟩
    · obtain ⟨ow, f, L⟩ := lay_all h hs.toList 0 _ (lay_none m) (by rw [Array.length_toList]; omega)
      rw [Nat.zero_add, Array.length_toList] at L
      exact ⟨ow, by rw [layClean_is, f]; rfl, L⟩
  let live : List (Nat × Nat) := (List.range (m + 1)).filterMap fun j => (ow.getD j none).map (j, ·)
  have ris := ris_live (fun j => ow.getD j none) (List.range (m + 1)) (by unfold Ris; first | exact List.pairwise_lt_range | exact List.pairwise_lt_range _)
  have snd : live.map (·.2) = ow.toList.filterMap id := by
    show ((List.range (m + 1)).filterMap fun j => (ow.getD j none).map (j, ·)).map (·.2) = _
    rw [List.map_filterMap]
    have q := fm_range ow.toList
    rw [Array.length_toList, L.sz] at q
    rw [← q]
    congr
    funext j
    rw [Option.map_map]
    show Option.map (fun x => x) (ow.getD j none) = _
    rw [Option.map_id']
    simp [Array.getD_eq_getD_getElem?, List.getD_eq_getElem?_getD]
  have len : live.length = hs.size := by
    have := congrArg List.length snd
    rw [List.length_map, L.pm.length_eq, List.length_range] at this
    exact this
  refine ⟨{ mask := m, place := (live.map (·.1)).toArray, dummies := #[], finger := f, led := ld, moves := v, plain := pl }, (live.map (·.2)).toArray, ?_, ?_, ?_, ris.1, rfl, rfl, rfl, rfl⟩
  · unfold SetTable.laid
    rw [e]
    rfl
  · show (live.map (·.2)).Perm _
    rw [snd]
    exact L.pm
  · show (live.map (·.1)).toArray.size = _
    rw [List.size_toArray, List.length_map, len]
end SS
namespace SS
open PySem PySem.Spec PyProof.Rows L2
/-- as SetW; the table's size, its dummies -/
def SetT (w : World) (h : Heap) (a : Addr) (l : List Str) (M d : Nat) : Prop :=
  ∃ ob es ep tb, h.get? a = some ob ∧ ob.ExactSet ∧ ob.data = .set es ep tb ∧ (∀ e ∈ es.toList, IsW w e) ∧ l.Nodup ∧ (es.toList.map wd).Perm l ∧ l.length < scanBound ∧
    tb.fits es.size = true ∧ Ris tb.place.toList ∧ (w.params.followText "set-order" = true ∨ tb.led = true) ∧ tb.mask = M ∧ tb.dummies.size ≤ d
theorem SetT.w {w : World} {h : Heap} {a : Addr} {l : List Str} {M d : Nat} (R : SetT w h a l M d) : SetW w h a l :=
  let ⟨ob, es, ep, tb, g, x, dd, e, n, p, b, f, r, ld, _⟩ := R
  ⟨ob, es, ep, tb, g, x, dd, e, n, p, b, f, r, ld⟩
theorem SetT.on {w : World} {h h' : Heap} {a : Addr} {l : List Str} {M d : Nat} (R : SetT w h a l M d) (k : ∀ o, h.get? a = some o → h'.get? a = some o) : SetT w h' a l M d :=
  let ⟨ob, es, ep, tb, g, r⟩ := R
  ⟨ob, es, ep, tb, k ob g, r⟩
theorem SetW.perm {w : World} {h : Heap} {a : Addr} {l m : List Str} (R : SetW w h a l) (q : l.Perm m) : SetW w h a m := by
  obtain ⟨ob, es, ep, tb, g, x, d, e, n, p, b, f, r⟩ := R
  exact ⟨ob, es, ep, tb, g, x, d, e, q.nodup_iff.mp n, p.trans q, by rw [← q.length_eq]; exact b, f, r⟩
section
variable {P : Program} {w : World} {A : Around} {E : Value → Shared → Prop} {s : Shared} {a b : Addr} {l m : List Str}
/-- the entries for a walk that nobody sees -/
def Ents (w : World) (l : List Str) (xs : List (Int × Value)) : Prop := (∀ e ∈ xs, IsW w e) ∧ (xs.map wd).Perm l
theorem walk_ok {Q : Array (Int × Value) → Shared → Prop} (R : SetW w s.heap a l) (hQ : ∀ xs d, Ents w l xs.toList → Q xs { s with drawn := d }) : wpAny (model P w) A (setWalk a) Q E s := by
  obtain ⟨ob, es, ep, tb, g, x, dt, ee, n, p, bb, f, r, ld⟩ := R
  unfold setWalk
  refine wpAny_bind (wpAny_setState_of g dt f ?_)
  dsimp only
  refine wpAny_bind (wpAny_byText ?_)
  by_cases q : w.params.followText "set-order" = true
  · refine wp_if_pos q (wpAny_bind (wpAny_askSetting (wpAny_pure ?_)))
    have pp := pick_perm (w.params.setOrder a ep) es
    exact hQ _ s.drawn ⟨fun e m => ee e (pp.mem_iff.mp m), (pp.map wd).trans p⟩
  · refine wp_if_neg q ?_
    try refine wpAny_bind (wpAny_pure ?_)
    have led : tb.led = true := ld.resolve_left q
    by_cases q2 : (!tb.plain && decide (es.size > 1)) = true
    · refine wp_if_pos q2 (wpAny_bind (drawOrder_at _ _ _ _ (by rw [Array.length_toList]; exact Nat.le_refl _) fun ys d pp => wpAny_pure (hQ _ d ⟨fun e m => ee e (pp.mem_iff.mp m), (pp.map wd).trans p⟩)))
    · refine wp_if_neg q2 ?_
      try refine wpAny_bind (wpAny_pure ?_)
      refine wpAny_bind (wpAny_of_eq (a := ()) ?_ (wpAny_pure (hQ es s.drawn ⟨ee, p⟩)))
      show (if (!tb.led && decide (es.size > 1)) = true then unsupported "set:maker-not-led" else pure ()) = pure ()
      rw [led]
      rfl
theorem quiet_ok {Q : Bool → Shared → Prop} : ∀ (as : List Addr), (∀ c ∈ as, ∃ l, SetW w s.heap c l) → Q true s → wpAny (model P w) A (setsQuiet as) Q E s := by
  intro as hs h
  unfold setsQuiet
  refine wpAny_bind (wpAny_forIn_list _ (fun rest st s' => s' = s ∧ st.1 = none ∧ ∀ c ∈ rest, ∃ l, SetW w s.heap c l) _ ?_ ?_ _ _ ⟨rfl, rfl, hs⟩)
  · rintro c rest st s' ⟨rfl, e, hh⟩
    obtain ⟨l, ob, es, ep, tb, g, x, dt, ee, n, p, bb, f, r⟩ := hh c List.mem_cons_self
    refine wpAny_bind (wpAny_setEntries_of g dt f ?_)
    rw [← Array.forIn_toList]
    refine wpAny_bind (wpAny_forIn_list _ (fun rest' st' s2 => s2 = s' ∧ st'.1 = none ∧ ∀ e ∈ rest', IsW w e) _ ?_ ?_ _ _ ⟨rfl, rfl, ee⟩)
    · rintro en rest' st' s2 ⟨rfl, e', hw⟩
      obtain ⟨z, u, e1, _⟩ := hw en List.mem_cons_self
      obtain ⟨h0, v0⟩ := en
      have e1 : v0 = Value.str z u := e1
      subst e1
      dsimp only
      refine wpAny_pure ?_
      exact ⟨rfl, rfl, fun e m => hw e (List.mem_cons_of_mem _ m)⟩
    · rintro st' s2 ⟨rfl, e', _⟩
      obtain ⟨o1, u1⟩ := st'
      have e' : o1 = none := e'
      subst e'
      refine wpAny_pure ⟨rfl, rfl, fun c m => hh c (List.mem_cons_of_mem _ m)⟩
  · rintro st s' ⟨rfl, e, _⟩
    obtain ⟨o1, u1⟩ := st
    have e : o1 = none := e
    subst e
    exact wpAny_pure h
theorem unseen_none {c : Addr} {k : List Str} {Q : Array (Int × Value) → Shared → Prop} (R : SetW w s.heap a l) (R2 : SetW w s.heap c k) (hQ : ∀ xs d, Ents w l xs.toList → Q xs { s with drawn := d }) : wpAny (model P w) A (setWalkUnseen a [c] none) Q E s := by
  have R0 := R
  obtain ⟨ob, es, ep, tb, g, x, dt, ee, n, p, bb, f, r, ld⟩ := R
  unfold setWalkUnseen
  refine wpAny_bind (wpAny_setState_of g dt f ?_)
  dsimp only
  refine wpAny_bind (wpAny_byText ?_)
  by_cases q : (w.params.followText "set-order" || tb.led && tb.plain || decide (es.size ≤ 1)) = true
  · refine wp_if_pos q ?_
    exact walk_ok R0 hQ
  · refine wp_if_neg q ?_
    try refine wpAny_bind (wpAny_pure ?_)
    refine wpAny_bind (quiet_ok [a, c] (fun y hy => ?_) ?_)
    · rcases List.mem_cons.mp hy with rfl | hy
      · exact ⟨l, R0⟩
      · rw [List.mem_singleton] at hy; subst hy; exact ⟨k, R2⟩
    · refine wp_if_neg (by decide) ?_
      try refine wpAny_bind (wpAny_pure ?_)
      exact wpAny_bind (wpAny_rule (wpAny_pure (hQ es s.drawn ⟨ee, p⟩)))
theorem unseen_some {c f : Addr} {k fl : List Str} {Q : Array (Int × Value) → Shared → Prop} (R : SetW w s.heap a l) (R2 : SetW w s.heap c k) (R3 : SetW w s.heap f fl)
    (hQ : ∀ xs h' d, Ents w l xs.toList → Heap.SameBut f s.heap h' → SetW w h' f fl → Q xs { s with heap := h', drawn := d }) : wpAny (model P w) A (setWalkUnseen a [c, f] (some f)) Q E s := by
  have R0 := R
  have R30 := R3
  obtain ⟨ob, es, ep, tb, g, x, dt, ee, n, p, bb, ft, r, ld⟩ := R
  unfold setWalkUnseen
  refine wpAny_bind (wpAny_setState_of g dt ft ?_)
  dsimp only
  refine wpAny_bind (wpAny_byText ?_)
  by_cases q : (w.params.followText "set-order" || tb.led && tb.plain || decide (es.size ≤ 1)) = true
  · refine wp_if_pos q ?_
    exact walk_ok R0 fun xs d h => hQ xs s.heap d h (Heap.SameBut.refl f s.heap) R30
  · refine wp_if_neg q ?_
    try refine wpAny_bind (wpAny_pure ?_)
    refine wpAny_bind (quiet_ok [a, c, f] (fun y hy => ?_) ?_)
    · rcases List.mem_cons.mp hy with rfl | hy
      · exact ⟨l, R0⟩
      · rcases List.mem_cons.mp hy with rfl | hy
        · exact ⟨k, R2⟩
        · rw [List.mem_singleton] at hy; subst hy; exact ⟨fl, R30⟩
    · refine wp_if_neg (by decide) ?_
      try refine wpAny_bind (wpAny_pure ?_)
      refine wpAny_bind (wpAny_rule ?_)
      obtain ⟨of, ef, epf, tf, gf, xf, df, eef, nf, pf, bf, ff, rf, ldf⟩ := R3
      have szf : ef.size = fl.length := by
        have := pf.length_eq
        rw [List.length_map, Array.length_toList] at this
        exact this
      refine wpAny_bind (wpAny_setState_of gf df ff ?_)
      dsimp only
      have nt : ¬ w.params.followText "set-order" = true := fun z => q (by rw [z]; rfl)
      have l1 := ld.resolve_left nt
      have l2 := ldf.resolve_left nt
      by_cases q2 : (tf.led && !tb.led || tf.plain && !tb.plain) = true
      · refine wp_if_pos q2 ?_
        refine wpAny_bind (wpAny_storeSet_of gf df ?_ (fits_of_scanBound (by rw [szf]; exact bf)))
        refine wpAny_pure (hQ es _ s.drawn ⟨ee, p⟩ (Heap.SameBut.update s.heap f _) ⟨_, ef, _, _, put_at gf df, xf, rfl, eef, nf, pf, bf, ?_, ?_, ?_⟩)
        · exact ff
        · exact rf
        · exact .inr (by show (tf.led && tb.led) = true; rw [l1, l2]; rfl)
      · refine wp_if_neg q2 ?_
        try refine wpAny_bind (wpAny_pure ?_)
        exact wpAny_pure (hQ es s.heap s.drawn ⟨ee, p⟩ (Heap.SameBut.refl f s.heap) R30)
/-- where a word stands in a set -/
theorem find_ok {z : Str} {u : Tok} {Q : Option Nat → Shared → Prop} (R : SetW w s.heap a l) (h1 : z ∉ l → Q none s) (h2 : ∀ i ob es ep tb e, s.heap.get? a = some ob → ob.data = .set es ep tb → es.toList[i]? = some e → wd e = z → z ∈ l → Q (some i) s) :
    wpAny (model P w) A (setFind a (.str z u) (hashStr w z)) Q E s := by
  obtain ⟨ob, es, ep, tb, g, x, dt, ee, n, p, bb, f, r, ld⟩ := R
  have key : (strKind P w).is z (.str z u) = true := by
    show Value.isStrOf z (Value.str z u) = true
    simp [Value.isStrOf]
  have sz : es.size = l.length := by
    have := p.length_eq
    rw [List.length_map, Array.length_toList] at this
    exact this
  have sc : (Value.str z u).scannable = true := rfl
  have el : ElemsOf (strKind P w) es.toList := isW_kind ee
  unfold setFind setFindIn
  refine wpAny_bind (wpAny_setState_of g dt f ?_)
  dsimp only
  rw [byScan_of sc (by rw [sz]; exact bb) el]
  simp only [if_true]
  refine wpAny_bind (wpAny_rule (wpAny_bind (wpAny_setScan_of (k := z) key g dt f el ?_)))
  cases fi : List.findIdx? (fun e => (strKind P w).is z e.2) es.toList with
  | none =>
    refine wpAny_pure (h1 fun m => ?_)
    obtain ⟨e, me, q⟩ := (isW_mem (P := P) ee z).mp (p.mem_iff.mpr m)
    have := List.findIdx?_eq_none_iff.mp fi e me
    rw [q] at this; cases this
  | some j =>
    obtain ⟨lt, pj, _⟩ := List.findIdx?_eq_some_iff_getElem.mp fi
    refine wpAny_pure ?_
    rw [Nat.zero_add]
    have wj := (isW_is (P := P) (ee _ (List.getElem_mem lt)) z).mp pj
    exact h2 j ob es ep tb _ g dt (List.getElem?_eq_getElem lt) wj (p.mem_iff.mp (List.mem_map.mpr ⟨_, List.getElem_mem lt, wj⟩))
end
end SS
namespace SS
open PySem PySem.Spec PyProof.Rows L2
theorem erase_list {α : Type} (xs : Array α) (i : Nat) : (SetTable.eraseAt xs i).toList = xs.toList.eraseIdx i := by
  unfold SetTable.eraseAt
  rw [Array.toList_append, Array.toList_extract, Array.toList_extract, List.eraseIdx_eq_take_drop_succ]
  simp only [List.extract_eq_drop_take, List.drop_zero, Nat.sub_zero]
  congr 1
  rw [List.take_of_length_le]
  rw [List.length_drop, Array.length_toList]
  omega
theorem insert_size {α : Type} (xs : Array α) (p : Nat) (hp : p ≤ xs.size) (x : α) : (SetTable.insertAt xs p x).size = xs.size + 1 := by
  rw [← Array.length_toList, SetTable.toList_insertAt]
  simp only [List.length_append, List.length_take, List.length_cons, List.length_drop, Array.length_toList]
  omega
theorem below_go_le (xs : Array Nat) (j : Nat) : ∀ f lo hi, lo ≤ hi → SetTable.below.go xs j f lo hi ≤ hi
  | 0, lo, hi, h => h
  | f + 1, lo, hi, h => by
    unfold SetTable.below.go
    split
    · dsimp only
      split
      · exact below_go_le xs j f _ _ (by omega)
      · exact Nat.le_trans (below_go_le xs j f _ _ (by omega)) (by omega)
    · exact h
theorem below_le (xs : Array Nat) (j : Nat) : SetTable.below xs j ≤ xs.size := below_go_le xs j _ _ _ (Nat.zero_le _)
theorem drop_tab {t : SetTable} {i : Nat} (hi : i < t.place.size) : (t.drop i).place.toList = t.place.toList.eraseIdx i ∧ (t.drop i).dummies.size = t.dummies.size + 1 ∧ (t.drop i).mask = t.mask ∧ (t.drop i).led = t.led := by
  unfold SetTable.drop
  rw [Array.getElem?_eq_getElem hi]
  exact ⟨erase_list _ _, insert_size _ _ (below_le _ _) _, rfl, rfl⟩
theorem erase_words {l : List Str} {z : Str} (n : l.Nodup) : ∀ {ys : List Str} {i : Nat}, ys.Perm l → ys[i]? = some z → (ys.eraseIdx i).Perm (l.filter (· != z)) := by
  intro ys i p e
  have nd := p.nodup_iff.mpr n
  have q := erase_perm ys i z e
  have fl : ∀ (ys : List Str) (i : Nat), ys.Nodup → ys[i]? = some z → ys.filter (· != z) = ys.eraseIdx i := by
    intro ys
    induction ys with
    | nil => intro i _ e; simp at e
    | cons y ys ih =>
      intro i nd e
      obtain ⟨n1, n2⟩ := List.nodup_cons.mp nd
      cases i with
      | zero =>
        have e : y = z := by simpa using e
        subst e
        rw [List.filter_cons_of_neg (by simp), List.eraseIdx_zero, List.tail_cons]
        exact List.filter_eq_self.mpr fun x hx => by simp; exact fun h => n1 (h ▸ hx)
      | succ i =>
        have e' : ys[i]? = some z := by simpa using e
        have : y ≠ z := fun h => n1 (h ▸ List.mem_of_getElem? e')
        rw [List.filter_cons_of_pos (by simpa using this), List.eraseIdx_cons_succ, ih i n2 e']
  rw [← fl ys i nd e]
  exact p.filter _
section
variable {P : Program} {w : World} {A : Around} {E : Value → Shared → Prop} {s : Shared} {a b : Addr} {l m : List Str}
theorem discard_ok {z : Str} {u : Tok} {M d : Nat} {Q : Bool → Shared → Prop} (R : SetT w s.heap a l M d)
    (hQ : ∀ c h', Heap.SameBut a s.heap h' → SetT w h' a (l.filter (· != z)) M (d + 1) → Q c { s with heap := h' }) : wpAny (model P w) A (setDiscardHashed a (.str z u) (hashStr w z)) Q E s := by
  obtain ⟨ob, es, ep, tb, g, x, dt, ee, n, p, bb, f, r, ld, mk, dm⟩ := id R
  unfold setDiscardHashed
  refine wpAny_bind (find_ok R.w (fun away => ?_) fun i ob' es' ep' tb' e g' dt' he hz there => ?_)
  · have same : l.filter (· != z) = l := List.filter_eq_self.mpr fun y hy => by simp; exact fun h => away (h ▸ hy)
    refine wpAny_pure (hQ false s.heap (Heap.SameBut.refl a s.heap) ?_)
    rw [same]
    exact ⟨ob, es, ep, tb, g, x, dt, ee, n, p, bb, f, r, ld, mk, Nat.le_succ_of_le dm⟩
  · rw [g] at g'; cases g'
    rw [dt] at dt'; cases dt'
    have sz : es.size = l.length := by
      have := p.length_eq
      rw [List.length_map, Array.length_toList] at this
      exact this
    have ff := f
    unfold SetTable.fits at ff
    rw [Bool.and_eq_true, beq_iff_eq, decide_eq_true_eq] at ff
    have lt : i < es.size := by
      have := (List.getElem?_eq_some_iff.mp he).1
      rwa [Array.length_toList] at this
    obtain ⟨t1, t2, t3, t4⟩ := drop_tab (t := tb) (i := i) (by rw [ff.1]; exact lt)
    have esz : (SetTable.eraseAt es i).size = es.size - 1 := by
      rw [← Array.length_toList, erase_list, List.length_eraseIdx, Array.length_toList, if_pos lt]
    have psz : (tb.drop i).place.size = es.size - 1 := by
      rw [← Array.length_toList, t1, List.length_eraseIdx, Array.length_toList, ff.1, if_pos lt]
    refine wpAny_bind (wpAny_setState_of g dt f ?_)
    dsimp only
    refine wpAny_bind (wpAny_storeSet_of g dt (wpAny_bind (wpAny_point (wpAny_pure ?_))) (by rw [esz]; have := fits_of_scanBound bb; omega))
    have pm : ((SetTable.eraseAt es i).toList.map wd).Perm (l.filter (· != z)) := by
      have em : ∀ (xs : List (Int × Value)) (i : Nat), (xs.eraseIdx i).map wd = (xs.map wd).eraseIdx i := by
        intro xs
        induction xs with
        | nil => intro i; rfl
        | cons y ys ih => intro i; cases i <;> simp [List.eraseIdx_cons_succ, ih]
      rw [erase_list, em]
      exact erase_words n p (by rw [List.getElem?_map, he, Option.map_some, hz])
    refine hQ true _ (Heap.SameBut.update s.heap a _) ⟨_, _, _, _, put_at g dt, x, rfl, fun e m => ?_, n.filter _, pm, Nat.lt_of_le_of_lt (List.length_filter_le _ _) bb, ?_, ?_, ld.imp id fun q => t4.trans q, t3.trans mk, by rw [t2]; omega⟩
    · rw [erase_list] at m
      exact ee e (List.mem_of_mem_eraseIdx m)
    · unfold SetTable.fits SetTable.fill
      rw [psz, esz, t2, t3, Bool.and_eq_true, beq_iff_eq, decide_eq_true_eq]
      have := ff.2
      unfold SetTable.fill at this
      omega
    · rw [t1]
      exact List.Pairwise.sublist (List.eraseIdx_sublist _ _) r
end
end SS
namespace SS
open PySem PySem.Spec PyProof.Rows L2
/-- entries in a new order, with their table -/
def reo (xs : Array (Int × Value)) (got : Option (SetTable × Array Nat)) : Sem (Array (Int × Value) × SetTable) := do
  let some (tab, seq) := got | unsupported "internal:set-table-without-room"
  let ys := seq.filterMap (xs[·]?)
  if ys.size != xs.size then unsupported "internal:set-table-lost-an-element"
  pure (ys, tab)
theorem relay_is (c : Addr) (k : Nat) : setRelay c k = (do
    let (xs, _, tab) ← setState c
    if SetTable.sizeAbove k > sizeLine then unsupported "set:memory"
    let (ys, tab2) ← reo xs (tab.relaid (xs.map (·.1)) k)
    storeSet c ys tab2) := by rfl
theorem reo_list {xs : Array (Int × Value)} {seq : Array Nat} (p : seq.toList.Perm (List.range xs.size)) : (seq.filterMap (xs[·]?)).toList.Perm xs.toList := by
  rw [Array.toList_filterMap]
  refine (p.filterMap _).trans ?_
  have : (List.range xs.size).filterMap (xs[·]?) = xs.toList := by
    have q : ∀ ys : List (Int × Value), (List.range ys.length).filterMap (ys[·]?) = ys := by
      intro ys
      induction ys with
      | nil => rfl
      | cons y ys ih =>
        rw [List.length_cons, List.range_succ_eq_map, List.filterMap_cons, List.filterMap_map]
        show y :: _ = _
        congr 1
    have := q xs.toList
    rw [Array.length_toList] at this
    rw [← this]
    congr 1
    funext i
    rw [Array.getElem?_toList]
  rw [this]
section
variable {P : Program} {w : World} {A : Around} {E : Value → Shared → Prop} {s : Shared} {a b : Addr} {l m : List Str}
theorem reo_ok {xs : Array (Int × Value)} {tab : SetTable} {seq : Array Nat} (p : seq.toList.Perm (List.range xs.size)) {Q : Array (Int × Value) × SetTable → Shared → Prop} (h : Q (seq.filterMap (xs[·]?), tab) s) : wpAny (model P w) A (reo xs (some (tab, seq))) Q E s := by
  unfold reo
  dsimp only
  have sz : (seq.filterMap (xs[·]?)).size = xs.size := by
    have := (reo_list p).length_eq
    rwa [Array.length_toList, Array.length_toList] at this
  refine wp_if_neg (by rw [sz]; simp) ?_
  try refine wpAny_bind (wpAny_pure ?_)
  exact wpAny_pure h
theorem above_ok {n : Nat} (h : n < 64) : SetTable.sizeAbove (n * 2) ≤ 128 ∧ (5 ≤ n → Msk (SetTable.sizeAbove (n * 2) - 1) ∧ n ≤ SetTable.sizeAbove (n * 2) - 1) := by
  have all : ((List.range 64).all fun n => decide (SetTable.sizeAbove (n * 2) ≤ 128) && (decide (n < 5) || ([7, 15, 31, 63, 127].contains (SetTable.sizeAbove (n * 2) - 1) && decide (n ≤ SetTable.sizeAbove (n * 2) - 1)))) = true := by decide +kernel
  rw [List.all_eq_true] at all
  have := all n (List.mem_range.mpr h)
  simp only [Bool.and_eq_true, Bool.or_eq_true, decide_eq_true_eq] at this
  refine ⟨this.1, fun g => ?_⟩
  rcases this.2 with q | q
  · omega
  · refine ⟨?_, q.2⟩
    have := q.1
    simp only [List.contains_cons, List.contains_nil, Bool.or_false, Bool.or_eq_true, beq_iff_eq] at this
    exact this
/-- room in a new set -/
theorem room_ok {n : Nat} (few : n < 64) (g : s.heap.get? b = some (mty w)) {Q : Unit → Shared → Prop}
    (hQ : ∀ h' ep tab, Heap.SameBut b s.heap h' → h'.get? b = some { cls := .type "set", dict := none, data := .set #[] ep tab } → tab.place = #[] → tab.dummies = #[] → (Msk tab.mask ∧ n ≤ tab.mask) → (w.params.followText "set-order" = true ∨ tab.led = true) → Q () { s with heap := h' }) :
    wpAny (model P w) A (setRoomFor b n) Q E s := by
  have lf : w.params.followText "set-order" = true ∨ (!w.params.followText "set-order") = true := by cases w.params.followText "set-order" <;> simp
  unfold setRoomFor
  refine wpAny_bind (wpAny_setState_of g rfl (by rfl) ?_)
  dsimp only
  by_cases q : (0 + n) * 5 ≥ 7 * 3
  · have e : SetTable.roomFor (.fresh 0 0 (!w.params.followText "set-order")) n = some ((0 + n) * 2) := if_pos q
    rw [e, Nat.zero_add]
    dsimp only
    obtain ⟨a1, a2⟩ := above_ok few
    obtain ⟨a3, a4⟩ := a2 (by omega)
    rw [relay_is]
    refine wpAny_bind (wpAny_setState_of g rfl (by rfl) ?_)
    dsimp only
    refine wp_if_neg (by rw [sizeLine_eq]; omega) ?_
    try refine wpAny_bind (wpAny_pure ?_)
    obtain ⟨tab, seq, e1, p1, z1, r1, m1, d1, l1, _⟩ := laid_is (m := SetTable.sizeAbove (n * 2) - 1) (f := 0) (v := SetTable.movedTo (.fresh 0 0 (!w.params.followText "set-order")) (SetTable.sizeAbove (n * 2) - 1)) (ld := !w.params.followText "set-order") (pl := true) (hs := (#[] : Array (Int × Value)).map (·.1)) (.inl (by simp))
    have p1 : seq.toList.Perm (List.range (#[] : Array (Int × Value)).size) := by simpa using p1
    have e2 : SetTable.relaid (.fresh 0 0 (!w.params.followText "set-order")) ((#[] : Array (Int × Value)).map (·.1)) (n * 2) = some (tab, seq) := e1
    rw [e2]
    refine wpAny_bind (reo_ok (xs := #[]) p1 ?_)
    dsimp only
    have em : seq.filterMap ((#[] : Array (Int × Value))[·]?) = #[] := by
      have := (reo_list (xs := #[]) p1).length_eq
      exact Array.eq_empty_of_size_eq_zero (by rwa [Array.length_toList] at this)
    rw [em]
    refine wpAny_storeSet_of g rfl ?_ (by show 0 ≤ sizeLine; omega)
    exact hQ _ 1 tab (Heap.SameBut.update s.heap b _) (put_at g rfl) (Array.eq_empty_of_size_eq_zero (z1.trans (by simp))) d1 (by rw [m1]; exact ⟨a3, a4⟩) (by rw [l1]; exact lf)
  · have e : SetTable.roomFor (.fresh 0 0 (!w.params.followText "set-order")) n = none := if_neg q
    rw [e]
    exact wpAny_pure (hQ s.heap 0 _ (Heap.SameBut.refl b s.heap) g rfl rfl ⟨.inl rfl, by show n ≤ 7; omega⟩ lf)
theorem made_set {Q : Value → Shared → Prop} (hQ : Q (.ref s.heap.objs.size) { s with heap := s.heap.push (mty w) }) : wpAny (model P w) A (newSet (.type "set")) Q E s := by
  unfold newSet
  refine wpAny_bind (wpAny_byText ?_)
  dsimp only
  simp only [newObj]
  exact wpAny_bind (wpAny_alloc (wpAny_pure hQ))
/-- a set's words into a new set -/
theorem merge_ok (few : l.length < 64) (ne : b ≠ a) (R : SetW w s.heap a l) (g : s.heap.get? b = some (mty w)) {Q : Unit → Shared → Prop}
    (hQ : ∀ h' M, Heap.SameBut b s.heap h' → SetT w h' b l M 0 → l.length ≤ M → Q () { s with heap := h' }) : wpAny (model P w) A (setMerge b a) Q E s := by
  obtain ⟨ob, es, ep, tb, ga, x, dt, ee, n, p, bb, f, r, ld⟩ := R
  have sz : es.size = l.length := by
    have := p.length_eq
    rw [List.length_map, Array.length_toList] at this
    exact this
  unfold setMerge
  refine wp_if_neg (by simpa using ne) ?_
  try refine wpAny_bind (wpAny_pure ?_)
  refine wpAny_bind (wpAny_setState_of ga dt f ?_)
  dsimp only
  by_cases em : es.isEmpty = true
  · refine wp_if_pos em (wpAny_pure ?_)
    have : l = [] := by
      have h0 : es.size = 0 := by simpa using em
      exact List.eq_nil_of_length_eq_zero (by omega)
    subst this
    have lf : w.params.followText "set-order" = true ∨ (!w.params.followText "set-order") = true := by cases w.params.followText "set-order" <;> simp
    exact hQ s.heap 7 (Heap.SameBut.refl b s.heap) ⟨_, #[], 0, _, g, ⟨rfl, rfl, rfl⟩, rfl, (fun e m => by simp at m), List.nodup_nil, by simp, by decide, by rfl, List.Pairwise.nil, lf, rfl, Nat.le_refl 0⟩ (Nat.zero_le _)
  · refine wp_if_neg em ?_
    try refine wpAny_bind (wpAny_pure ?_)
    refine wpAny_bind (room_ok (by rw [sz]; exact few) g fun h1 ep1 tab sb1 g1 pl dm mk ld1 => ?_)
    have ga1 : h1.get? a = some ob := (sb1.2 a ne.symm).trans ga
    have fit1 : tab.fits (#[] : Array (Int × Value)).size = true := by
      unfold SetTable.fits SetTable.fill
      rw [pl, dm]
      rfl
    refine wpAny_bind (wpAny_setState_of g1 rfl fit1 ?_)
    dsimp only
    have ff := f
    unfold SetTable.fits SetTable.fill at ff
    rw [Bool.and_eq_true, beq_iff_eq, decide_eq_true_eq] at ff
    have road : tab.road tb = if (tab.mask == tb.mask && tb.dummies.isEmpty) = true then .slotForSlot else .clean := by
      unfold SetTable.road SetTable.fill
      rw [pl, dm]
      rfl
    rw [road]
    have ledb : w.params.followText "set-order" = true ∨ (tab.led && tb.led) = true := by
      rcases ld1 with q | q
      · exact .inl q
      · rcases ld with q2 | q2
        · exact .inl q2
        · exact .inr (by rw [q, q2]; rfl)
    split
    · rename_i hq
      split at hq
      · rename_i hm
        simp only [Bool.and_eq_true, beq_iff_eq, Array.isEmpty_iff] at hm
        refine wpAny_storeSet_of g1 rfl ?_ (by rw [sz]; have := fits_of_scanBound bb; omega)
        refine hQ _ tb.mask (sb1.trans (Heap.SameBut.update _ b _)) ⟨_, es, _, _, put_at g1 rfl, ⟨rfl, rfl, rfl⟩, rfl, ee, n, p, bb, f, r, ledb, rfl, by show tb.dummies.size ≤ 0; rw [hm.2]; exact Nat.le_refl 0⟩ (by omega)
      · cases hq
    · rename_i hq
      obtain ⟨t2, seq, e2, p2, z2, r2, m2, d2, l2, _⟩ := laid_is (m := tab.mask) (f := tab.finger) (v := tab.moves) (ld := tab.led && tb.led) (pl := tab.plain && tb.plain) (hs := es.map (·.1)) (.inr ⟨mk.1, by rw [Array.size_map]; exact mk.2⟩)
      rw [Array.size_map] at p2 z2
      show wpAny _ _ (reo es _ >>= fun q => match q with | (xs, t) => storeSet b xs t) _ _ _
      rw [e2]
      refine wpAny_bind (reo_ok p2 ?_)
      dsimp only
      have pe := reo_list p2
      have ze : (seq.filterMap (es[·]?)).size = es.size := by
        have := pe.length_eq
        rwa [Array.length_toList, Array.length_toList] at this
      refine wpAny_storeSet_of g1 rfl ?_ (by rw [ze, sz]; have := fits_of_scanBound bb; omega)
      refine hQ _ tab.mask (sb1.trans (Heap.SameBut.update _ b _)) ⟨_, _, _, _, put_at g1 rfl, ⟨rfl, rfl, rfl⟩, rfl, fun e m => ee e (pe.mem_iff.mp m), n, (pe.map wd).trans p, bb, ?_, r2, by rw [l2]; exact ledb, m2, by rw [d2]; exact Nat.le_refl 0⟩ (by omega)
      unfold SetTable.fits SetTable.fill
      rw [z2, ze, d2, m2, Bool.and_eq_true, beq_iff_eq, decide_eq_true_eq]
      exact ⟨rfl, by show es.size + 0 ≤ _; omega⟩
    · rename_i hq
      split at hq <;> cases hq
end
end SS
namespace SS
open PySem PySem.Spec PyProof.Rows L2
def less (l m : List Str) : List Str := l.filter fun z => decide (z ∉ m)
theorem any_set {P : Program} {w : World} {A : Around} {E : Value → Shared → Prop} {s : Shared} {a : Addr} {Q : Bool → Shared → Prop} (t : s.TypeIs (.ref a) "set") (h : Q true s) : wpAny (model P w) A (Builtin.Frozenset.isAnySet (.ref a)) Q E s := by
  unfold Builtin.Frozenset.isAnySet orM
  refine wpAny_bind (wpAny_isInstance t sub_set_self ?_)
  exact wpAny_pure h
section
variable {P : Program} {w : World} {A : Around} {E : Value → Shared → Prop} {s : Shared} {a b : Addr} {l m : List Str}
theorem SetW.ty (R : SetW w s.heap a l) : s.TypeIs (.ref a) "set" :=
  let ⟨ob, es, ep, tb, g, x, _⟩ := R
  ⟨ob, g, x.1⟩
theorem base_ok {Q : Value → Shared → Prop} (t : s.TypeIs (.ref a) "set") (h : Q (.type "set") s) : wpAny (model P w) A (Builtin.Frozenset.baseOf a) Q E s := by
  unfold Builtin.Frozenset.baseOf
  refine wpAny_bind (wpAny_isInstance t sub_set_self ?_)
  exact wpAny_pure h
theorem size_ok {Q : Nat → Shared → Prop} (R : SetW w s.heap a l) (h : Q l.length s) : wpAny (model P w) A (Builtin.Frozenset.sizeOf a) Q E s := by
  obtain ⟨ob, es, ep, tb, g, _, dt, f, sz⟩ := R.size
  unfold Builtin.Frozenset.sizeOf
  refine wpAny_bind (wpAny_setEntries_of g dt f (wpAny_pure ?_))
  rw [sz]
  exact h
theorem epoch_ok {Q : Nat → Shared → Prop} {ob : Obj} {es : Array (Int × Value)} {ep : Nat} {tb : SetTable} (g : s.heap.get? a = some ob) (dt : ob.data = .set es ep tb) (f : tb.fits es.size = true) (h : Q ep s) : wpAny (model P w) A (setEpoch a) Q E s := wpAny_setEpoch_of g dt f h
/-- by a copy, from which the other's words are taken -/
theorem cut_ok {M : Nat} {id : String} (ne : b ≠ a) (lt : m.length < l.length / 4) (hM : l.length ≤ M) (Ra : SetT w s.heap b l M 0) (Rb : SetW w s.heap a m) {Q : Unit → Shared → Prop}
    (hQ : ∀ h' d, Heap.SameBut b s.heap h' → SetW w h' b (less l m) → Q () { s with heap := h', drawn := d }) : wpAny (model P w) A (Builtin.Frozenset.differenceUpdate id b (.ref a)) Q E s := by
  have len : m.length < scanBound := by obtain ⟨_, _, _, _, _, _, _, _, _, _, q, _⟩ := Rb; exact q
  unfold Builtin.Frozenset.differenceUpdate
  refine wp_if_neg (by simpa using ne.symm) ?_
  try refine wpAny_bind (wpAny_pure ?_)
  refine wpAny_bind (any_set Rb.ty ?_)
  refine wp_if_pos rfl ?_
  unfold Builtin.Frozenset.addrOf
  refine wpAny_bind (wpAny_pure ?_)
  try dsimp only
  refine wpAny_bind (size_ok Rb ?_)
  refine wpAny_bind (size_ok Ra.w ?_)
  refine wp_if_neg (by omega) ?_
  try refine wpAny_bind (wpAny_pure ?_)
  try dsimp only
  have Rb' := Rb
  obtain ⟨ob, es, ep, tb, g, x, dt, ee, n, p, bb, f, r, ld⟩ := Rb'
  refine wpAny_bind (epoch_ok g dt f ?_)
  refine wpAny_bind (wpAny_holding ?_)
  refine wpAny_bind (unseen_none Rb Ra.w fun xs d hx => ?_)
  rw [← Array.forIn_toList]
  refine wpAny_bind (wpAny_forIn_list _ (fun rest _ s' => ∃ (h' : Heap) (done : List (Int × Value)), s' = { s with heap := h', drawn := d } ∧ xs.toList = done ++ rest ∧ Heap.SameBut b s.heap h' ∧ SetT w h' b (less l (done.map wd)) M done.length) _ ?_ ?_ _ _ ⟨s.heap, [], rfl, rfl, Heap.SameBut.refl b s.heap, ?_⟩)
  · rintro ⟨hh, vv⟩ rest u s' ⟨h', done, rfl, e, sb, R⟩
    have me : (hh, vv) ∈ xs.toList := by rw [e]; simp
    obtain ⟨z, t, e1, e2⟩ := hx.1 _ me
    have e1 : vv = Value.str z t := e1
    have e2 : hh = hashStr w z := e2
    subst e1 e2
    dsimp only
    have g' : h'.get? a = some ob := (sb.2 a ne.symm).trans g
    refine wpAny_bind (wpAny_holding (discard_ok (s := { s with heap := h', drawn := d }) R fun c h2 sb2 R2 => ?_))
    unfold Builtin.Frozenset.unchanged
    refine wpAny_bind (wpAny_bind (epoch_ok (s := { s with heap := h2, drawn := d }) ((sb2.2 a ne.symm).trans g') dt f ?_))
    refine wp_if_neg (by simp) ?_
    refine wpAny_pure ?_
    refine wpAny_pure ⟨h2, done ++ [(hashStr w z, Value.str z t)], rfl, by rw [e]; simp, sb.trans sb2, ?_⟩
    have q : less l ((done ++ [(hashStr w z, Value.str z t)]).map wd) = (less l (done.map wd)).filter (· != z) := by
      unfold less
      rw [List.filter_filter]
      congr
      funext y
      rw [List.map_append]
      show decide (y ∉ done.map wd ++ [z]) = _
      by_cases h1 : y ∈ done.map wd <;> by_cases h2 : y = z <;> simp [h1, h2]
    rw [q, List.length_append]
    exact R2
  · rintro u s' ⟨h', done, rfl, e, sb, R⟩
    rw [List.append_nil] at e
    subst e
    have dl : xs.toList.length = m.length := by have := hx.2.length_eq; rwa [List.length_map] at this
    have el : less l (xs.toList.map wd) = less l m := by
      unfold less
      congr
      funext y
      rw [decide_eq_decide, hx.2.mem_iff]
    rw [el] at R
    refine wpAny_pure ?_
    have R' := R
    obtain ⟨ob2, es2, ep2, tb2, g2, x2, dt2, ee2, n2, p2, bb2, f2, r2, ld2, mk2, dm2⟩ := R'
    show wpAny _ _ (setTidy b) _ _ _
    unfold setTidy
    refine wpAny_bind (wpAny_setState_of (s := { s with heap := h', drawn := d }) g2 dt2 f2 ?_)
    dsimp only
    refine wp_if_neg ?_ (wpAny_pure (hQ h' d sb R.w))
    unfold SetTable.tooManyDummies
    rw [decide_eq_true_eq, mk2]
    omega
  · have : less l ([] : List Str) = l := List.filter_eq_self.mpr fun y _ => by simp
    show SetT w s.heap b (less l []) M 0
    rw [this]
    exact Ra
/-- the words of one set that aren't in another, as a new set -/
theorem diff_ok {id : String} (few : l.length < 64) (ne : a ≠ b) (Ra : SetW w s.heap a l) (Rb : SetW w s.heap b m) {Q : Value → Shared → Prop}
    (hQ : ∀ h' d, (∀ c o, s.heap.get? c = some o → h'.get? c = some o) → SetW w h' s.heap.objs.size (less l m) → Q (.ref s.heap.objs.size) { s with heap := h', drawn := d }) : wpAny (model P w) A (Builtin.Frozenset.difference id a (.ref b)) Q E s := by
  have Ra' := Ra
  obtain ⟨oa, _, _, _, ga, _⟩ := Ra'
  obtain ⟨ob, es, ep, tb, gb, xb, db, eb, nb, pb, bb, fb, rb, ldb⟩ := (fun x => x) Rb
  have la := Heap.lt_size ga
  have lb := Heap.lt_size gb
  have nea : s.heap.objs.size ≠ a := Nat.ne_of_gt la
  have neb : s.heap.objs.size ≠ b := Nat.ne_of_gt lb
  have at0 : (s.heap.push (mty w)).get? s.heap.objs.size = some (mty w) := Heap.get?_push_size _ rfl
  have Ra1 : SetW w (s.heap.push (mty w)) a l := Ra.on fun o q => Heap.get?_push_of_some _ q
  have Rb1 : SetW w (s.heap.push (mty w)) b m := Rb.on fun o q => Heap.get?_push_of_some _ q
  have keep : ∀ {h' : Heap}, Heap.SameBut s.heap.objs.size (s.heap.push (mty w)) h' → ∀ c o, s.heap.get? c = some o → h'.get? c = some o := fun {h'} sb c o q => (sb.2 c (Nat.ne_of_lt (Heap.lt_size q))).trans (Heap.get?_push_of_some _ q)
  unfold Builtin.Frozenset.difference
  refine wpAny_bind (any_set Rb.ty ?_)
  refine wp_if_neg (by decide) ?_
  try refine wpAny_bind (wpAny_pure ?_)
  unfold Builtin.Frozenset.addrOf
  refine wpAny_bind (size_ok Rb ?_)
  refine wpAny_bind (size_ok Ra ?_)
  by_cases big : l.length / 4 > m.length
  · refine wp_if_pos big (wpAny_bind (wpAny_rule ?_))
    unfold Builtin.Frozenset.copyOf
    refine wpAny_bind (wpAny_bind (base_ok Ra.ty (wpAny_bind (made_set ?_))))
    refine wpAny_bind (wpAny_pure ?_)
    try dsimp only
    refine wpAny_bind (merge_ok few nea Ra1 at0 fun h1 M sb1 R1 hM => ?_)
    refine wpAny_pure ?_
    have Rb2 : SetW w h1 b m := Rb1.on fun o q => (sb1.2 b neb.symm).trans q
    refine wpAny_bind (wpAny_pure ?_)
    refine wpAny_bind (wpAny_holding (cut_ok (s := { s with heap := h1 }) neb big hM R1 Rb2 fun h2 d sb2 R2 => wpAny_pure ?_))
    exact hQ h2 d (keep (sb1.trans sb2)) R2
  · refine wp_if_neg big ?_
    try refine wpAny_bind (wpAny_pure ?_)
    refine wpAny_bind (base_ok Ra.ty (wpAny_bind (made_set ?_)))
    refine wpAny_bind (wpAny_pure ?_)
    try dsimp only
    have Ra2 := Ra1
    obtain ⟨oa1, es1, ep1, tb1, ga1, xa1, da1, ea1, na1, pa1, ba1, fa1, ra1, lda1⟩ := Ra2
    refine wpAny_bind (epoch_ok (s := { s with heap := s.heap.push (mty w) }) ga1 da1 fa1 ?_)
    refine wpAny_bind (wpAny_holding ?_)
    refine wpAny_bind (unseen_some (s := { s with heap := s.heap.push (mty w) }) Ra1 Rb1 (mty_ok at0) fun xs h1 d hx sb1 R1 => ?_)
    rw [← Array.forIn_toList]
    refine wpAny_bind (wpAny_forIn_list _ (fun rest _ s' => ∃ (h' : Heap) (done : List (Int × Value)), s' = { s with heap := h', drawn := d } ∧ xs.toList = done ++ rest ∧ Heap.SameBut s.heap.objs.size (s.heap.push (mty w)) h' ∧ SetW w h' s.heap.objs.size (less (done.map wd) m)) _ ?_ ?_ _ _ ⟨h1, [], rfl, rfl, sb1, R1⟩)
    · rintro ⟨hh, vv⟩ rest u s' ⟨h', done, rfl, e, sb, R⟩
      have me : (hh, vv) ∈ xs.toList := by rw [e]; simp
      obtain ⟨z, t, e1, e2⟩ := hx.1 _ me
      have e1 : vv = Value.str z t := e1
      have e2 : hh = hashStr w z := e2
      subst e1 e2
      dsimp only
      have fresh : z ∉ done.map wd := fun q => by
        have nd := hx.2.nodup_iff.mpr (by have q2 := Ra; obtain ⟨_, _, _, _, _, _, _, _, n, _⟩ := q2; exact n)
        rw [e, List.map_append, List.map_cons] at nd
        exact (List.nodup_append.mp nd).2.2 z q z List.mem_cons_self rfl
      have ga2 : h'.get? a = some oa1 := (sb.2 a nea.symm).trans ga1
      have step : ∀ h2 : Heap, Heap.SameBut s.heap.objs.size h' h2 → SetW w h2 s.heap.objs.size (less ((done ++ [(hashStr w z, Value.str z t)]).map wd) m) → ∀ (A' : Around), wpAny (model P w) A'
          (do Builtin.Frozenset.unchanged id a ep1; pure (ForInStep.yield PUnit.unit)) (fun r s' => match r with
            | .yield b' => ∃ (h' : Heap) (done : List (Int × Value)), s' = { s with heap := h', drawn := d } ∧ xs.toList = done ++ rest ∧ Heap.SameBut s.heap.objs.size (s.heap.push (mty w)) h' ∧ SetW w h' s.heap.objs.size (less (done.map wd) m)
            | .done b' => False) E { s with heap := h2, drawn := d } := fun h2 sb2 R2 A' => by
        unfold Builtin.Frozenset.unchanged
        refine wpAny_bind (wpAny_bind (epoch_ok (s := { s with heap := h2, drawn := d }) ((sb2.2 a nea.symm).trans ga2) da1 fa1 ?_))
        refine wp_if_neg (by simp) ?_
        refine wpAny_pure ?_
        exact wpAny_pure ⟨h2, done ++ [(hashStr w z, Value.str z t)], rfl, by rw [e]; simp, sb.trans sb2, R2⟩
      have Rb3 : SetW w h' b m := Rb1.on fun o q => (sb.2 b neb.symm).trans q
      refine wpAny_bind (wpAny_holding ?_)
      refine wpAny_bind (find_ok (s := { s with heap := h', drawn := d }) Rb3 (fun away => ?_) fun i _ _ _ _ _ _ _ _ _ there => ?_)
      · refine wpAny_bind (wpAny_pure ?_)
        refine wp_if_pos rfl ?_
        have q : less ((done ++ [(hashStr w z, Value.str z t)]).map wd) m = put (less (done.map wd) m) z := by
          unfold less put
          rw [List.map_append, List.filter_append, if_neg fun q => fresh ((List.mem_filter.mp q).1)]
          show _ ++ [z].filter _ = _
          rw [List.filter_cons_of_pos (by simpa using away), List.filter_nil]
        have room : (less (done.map wd) m).length + 1 < scanBound := by
          have h1 := List.length_filter_le (fun z => decide (z ∉ m)) (done.map wd)
          have h2 := hx.2.length_eq
          rw [e, List.map_append, List.length_append, List.length_map, List.map_cons, List.length_cons] at h2
          rw [List.length_map] at h1
          have : scanBound = 4096 := rfl
          unfold less
          omega
        refine wpAny_bind (add_ok (s := { s with heap := h', drawn := d }) R room fun h2 sb2 R2 => wpAny_pure ?_)
        refine wpAny_mono (step h2 sb2 (by rw [q]; exact R2) _) (fun r s' hr => ?_) fun _ _ z => z
        cases r with
        | yield u => exact hr
        | done u => exact hr.elim
      · refine wpAny_bind (wpAny_pure ?_)
        refine wp_if_neg (by simp) ?_
        try refine wpAny_bind (wpAny_pure ?_)
        have q : less ((done ++ [(hashStr w z, Value.str z t)]).map wd) m = less (done.map wd) m := by
          unfold less
          rw [List.map_append, List.filter_append]
          show _ ++ [z].filter _ = _
          rw [List.filter_cons_of_neg (by simpa using there), List.filter_nil, List.append_nil]
        refine wpAny_pure ?_
        refine wpAny_mono (step h' (Heap.SameBut.refl _ h') (by rw [q]; exact R) _) (fun r s' hr => ?_) fun _ _ z => z
        cases r with
        | yield u => exact hr
        | done u => exact hr.elim
    · rintro u s' ⟨h', done, rfl, e, sb, R⟩
      rw [List.append_nil] at e
      subst e
      refine wpAny_pure (wpAny_pure ?_)
      refine hQ h' d (keep sb) (R.perm ?_)
      exact hx.2.filter _
end
end SS
namespace SS
open PySem PySem.Spec PyProof.Rows L2
section
variable {P : Program} {w : World} {A : Around} {E : Value → Shared → Prop} {s : Shared} {a b : Addr} {l m : List Str}
theorem entry_sub : entryFor table "set.__sub__" = some Builtin.«frozenset.__sub__» := entryFor_alias (id' := "frozenset.__sub__") (by kernel_rfl) rfl (by decide +kernel) (by kernel_rfl)
theorem minus_ok (few : l.length < 64) (ne : a ≠ b) (Ra : SetW w s.heap a l) (Rb : SetW w s.heap b m) {Q : Value → Shared → Prop}
    (hQ : ∀ h' d, (∀ c o, s.heap.get? c = some o → h'.get? c = some o) → SetW w h' s.heap.objs.size (less l m) → Q (.ref s.heap.objs.size) { s with heap := h', drawn := d }) : wpAny (model P w) A (binaryOp .Sub (.ref a) (.ref b)) Q E s := by
  refine wpAny_binaryOp_same Ra.ty Rb.ty F.fills_set_sub F.slot_set_sub (wpAny_call_entry F.slot_set_sub Ra.ty entry_sub ?_ (F.args_set_sub_2 _ _))
  unfold Builtin.«frozenset.__sub__»
  refine wpAny_bind (m := Builtin.Frozenset.slot1 "__sub__" ⟨[.ref a, .ref b], []⟩) (wpAny_of_eq (a := ((Value.ref a : Value), (Value.ref b : Value))) (by first | rfl | (simp only [Builtin.Frozenset.slot1, slotArgs]; rfl)) ?_)
  dsimp only
  rw [if_neg (by decide : ¬ false = true)]
  dsimp only
  refine wpAny_bind (wpAny_bind (any_set Ra.ty ?_))
  show wpAny _ _ (Builtin.Frozenset.isAnySet (.ref b)) _ _ _
  refine any_set Rb.ty ?_
  refine wp_if_neg (by decide) ?_
  try refine wpAny_bind (wpAny_pure ?_)
  refine wpAny_bind (diff_ok few ne Ra Rb fun h' d k R => ?_)
  exact wpAny_pure ⟨_, rfl, (fun z => by cases z), hQ h' d k R⟩
end
end SS
namespace SS
open PySem PySem.Spec PyProof.Rows L2
theorem strs_of : ∀ {es : List (Int × Value)} {w : World} {vs : List Value}, (∀ e ∈ es, IsW w e) → vs.Perm (es.map (·.2)) → StrsAre vs (vs.map fun v => wd (0, v)) := by
  intro es w vs hw p
  have all : ∀ v ∈ vs, ∃ z u, v = Value.str z u := fun v hv => by
    obtain ⟨e, he, rfl⟩ := List.mem_map.mp (p.mem_iff.mp hv)
    obtain ⟨z, u, q, _⟩ := hw e he
    exact ⟨z, u, q⟩
  clear p
  induction vs with
  | nil => exact .nil
  | cons v vs ih =>
    obtain ⟨z, u, rfl⟩ := all v List.mem_cons_self
    exact .cons z u (ih fun x hx => all x (List.mem_cons_of_mem _ hx))
section
variable {P : Program} {w : World} {A : Around} {E : Value → Shared → Prop} {s : Shared} {a b : Addr} {l m : List Str}
theorem order_ok (R : SetW w s.heap a l) (hc : A.handled = none) (few : l.length < 64) {Q : Value → Shared → Prop}
    (hQ : ∀ s' p (out : Array Value) (n : Nat) (ys : List Str), (∀ c o, s.heap.get? c = some o → s'.heap.get? c = some o) → s'.gens = s.gens → s'.os = s.os → s.heap.objs.size ≤ p → s'.heap.get? p = some (seqObj "list" out n) → StrsAre out.toList ys → ys.Perm l → sortedS ys = true → Q (.ref p) s') :
    wpAny (model P w) A (call (.builtin "sorted") [.ref a]) Q E s := by
  obtain ⟨ob, es, ep, tb, g, x, dt, ee, n, p, bb, f, r, ld⟩ := R
  have sz : es.size = l.length := by
    have := p.length_eq
    rw [List.length_map, Array.length_toList] at this
    exact this
  refine Calls.call_function_entry kind_sorted plain_sorted entry_sorted (args_sorted1 _) ?_
  unfold Builtin.«sorted»
  refine wpAny_bind (m := checkCount "sorted" 1 1 _) (wpAny_pure ?_)
  refine wpAny_bind (collect_set (A := A.in1) hc ⟨ob, g, x.1, dt⟩ f (by rw [sz]; exact bb) r ld fun s1 vs k1 z1 g1 o1 pm => ?_)
  have len : vs.length = l.length := by rw [pm.length_eq, List.length_map, Array.length_toList, sz]
  have hS := strs_of ee pm
  refine wpAny_bind (wpAny_newList ?_ (by rw [len, sizeLine_eq]; omega))
  have o0 : (s1.heap.push (seqObj "list" vs.toArray 0)).get? s1.heap.objs.size = some (seqObj "list" vs.toArray 0) := Heap.get?_push_size _ rfl
  refine wpAny_bind (wpAny_holding (wpAny_call_entry slot_list_sort ⟨_, o0, rfl⟩ entry_list_sort (list_sort_treeK strKind_oneLt o0 hS.keysOf (fun v₁ v₂ rest e => keyKind_strs (by rw [← e]; exact hS)) (by rw [len]; exact few) fun st' hp hs => ?_) (args_list_sort _)))
  obtain ⟨ys, h1, h2, h3⟩ := sorted_out_str hS hp hs
  obtain ⟨c, hcc⟩ := sortedHeap_at (vs := vs) (out := (arrOf st').map (·.2)) o0
  refine ⟨_, rfl, wpAny_pure ⟨_, rfl, hQ _ s1.heap.objs.size _ c ys (fun q o e => ?_) g1 o1 z1 hcc h1 ?_ h3⟩⟩
  · have e1 := k1 q o e
    have lt := Heap.lt_size e1
    show (sortedHeap _ s1.heap.objs.size vs _).get? q = some o
    rw [sortedHeap_old (Nat.ne_of_lt lt) (by rw [size_push']; exact Nat.lt_succ_of_lt lt)]
    exact Heap.get?_push_of_some _ e1
  · refine h2.trans ?_
    have q := pm.map fun v => wd (0, v)
    rw [List.map_map] at q
    exact q.trans p
end
section
variable {X : Cx}
/-- the set of the words l, at a -/
def SetO (w : World) (a : Addr) (l : List Str) : HO := .ext fun h => SetW w h a l
theorem setO_ok {w : World} {P : Program} {H : Hp} {h : Heap} {a : Addr} {l : List Str} (R : SetW w h a l) : ObjOk P w H h a (SetO w a l) := by
  have ⟨o, _, _, _, ho, _⟩ := R
  exact ⟨R, ⟨o, ho⟩, fun h1 h2 p k => SetW.on p k⟩
theorem setO_at {pins : List (Addr × Obj)} {σ : L2.St} {H : Hp} {s : Shared} {a : Addr} {l : List Str} (I : Inv X pins σ H s) (ha : H a = some (SetO X.w a l)) : SetW X.w s.heap a l := (I.hok a _ ha).1
theorem ws_of {zs : List Str} {us : List Value} (r : Vals (zs.map V.str) us) : WsAre us zs := by
  intro i
  have len := r.length
  rw [List.length_map] at len
  refine ⟨by rw [List.getElem?_eq_none_iff, List.getElem?_eq_none_iff, len], fun v hv => ?_⟩
  have hi : i < zs.length := by rw [len]; exact (List.getElem?_eq_some_iff.mp hv).1
  obtain ⟨u, e1, e2⟩ := r.get (i := i) (x := V.str zs[i]) (by rw [List.getElem?_map, List.getElem?_eq_getElem hi]; rfl)
  rw [hv] at e1
  cases e1
  obtain ⟨t, rfl⟩ := e2
  exact ⟨zs[i], t, List.getElem?_eq_getElem hi, rfl⟩
/-- set(xs), xs a list or a tuple of words -/
def rSetW (K : PySem.W.Frag) (w : World) : List V → Hp → VK → Prop := fun vs H Q => ∃ (l : Addr) (zs : List Str), vs = [V.ref l] ∧ (SqL K H l (zs.map V.str) ∨ SqT K H l (zs.map V.str)) ∧ zs.length + 1 < scanBound ∧
  ∀ p, H p = none → Q (.ref p) (upd H p (SetO w p (once zs)))
theorem cr_setW (hc : X.calm = true) : CallR X (.type "set") (rSetW X.K X.w) := by
  intro pins s σ H vs us Q I r h
  obtain ⟨l, zs, rfl, hl, room, q⟩ := h
  rw [Vals.ref1 r]
  have hn : H s.heap.objs.size = none := I.hok.fresh (Nat.le_refl _)
  have fin : ∀ h' t, SetW X.w h' s.heap.objs.size (once zs) → (∀ b o, s.heap.get? b = some o → h'.get? b = some o) → EP X pins σ Q (.ref s.heap.objs.size) { s with heap := h', toks := t } := fun h' t R k =>
    ⟨.ref s.heap.objs.size, upd H s.heap.objs.size (SetO X.w s.heap.objs.size (once zs)), I.laid (t' := t) k (Nat.le_refl _) (setO_ok R), rfl, q _ hn⟩
  rcases hl with hl | hl
  · obtain ⟨its, rv, pl, _⟩ := I.list hl
    exact set_of_list (I.ok.hd hc) pl.isList (by simpa using ws_of rv) room fin
  · obtain ⟨its, rv, ⟨o, ho, hcl, n, hd⟩, _⟩ := I.tuple hl
    exact set_of_tup (I.ok.hd hc) ⟨o, ho, hcl, n, hd⟩ (by simpa using ws_of rv) room fin
/-- one set less another -/
def rMinusW (w : World) : R2 := fun x y H Q => ∃ (a b : Addr) (l m : List Str), x = .ref a ∧ y = .ref b ∧ H a = some (SetO w a l) ∧ H b = some (SetO w b m) ∧ a ≠ b ∧ l.length < 64 ∧ ∀ p, H p = none → Q (.ref p) (upd H p (SetO w p (less l m)))
theorem op_minusW : OpR X (binaryOp .Sub) (rMinusW X.w) := by
  intro pins s σ H x y v u Q I rx ry h
  obtain ⟨a, b, l, m, rfl, rfl, ha, hb, ne, few, q⟩ := h
  cases rx
  cases ry
  refine minus_ok few ne (setO_at I ha) (setO_at I hb) fun h' d k R => ?_
  have hn : H s.heap.objs.size = none := I.hok.fresh (Nat.le_refl _)
  have J : Inv X pins σ (upd H s.heap.objs.size (SetO X.w s.heap.objs.size (less l m))) { s with heap := h', drawn := d } :=
    I.call (ch := []) (t' := s.toks) (g' := s.gens) (Un.laid k (Nat.le_refl _) hn) (I.hok.laid k (Nat.le_refl _) (setO_ok R)) I.bare (fun _ z => nomatch z)
  exact ⟨.ref _, _, J, rfl, q _ hn⟩
/-- sorted(set) -/
def rSortedW (w : World) : List V → Hp → VK → Prop := fun vs H Q => ∃ (a : Addr) (l : List Str), vs = [V.ref a] ∧ H a = some (SetO w a l) ∧ l.length < 64 ∧ ∀ (ys : List Str) (p : Addr), ys.Perm l → sortedS ys = true → H p = none → Q (.ref p) (upd H p (.lst (ys.map V.str)))
theorem cr_sortedW (hc : X.calm = true) : CallR X (.builtin "sorted") (rSortedW X.w) := by
  intro pins s σ H vs us Q I r h
  obtain ⟨a, l, rfl, ha, few, q⟩ := h
  rw [Vals.ref1 r]
  refine order_ok (setO_at I ha) (I.ok.hd hc) few fun s' p out n ys k g o hp hg hS pm so => ?_
  have hn : H p = none := I.hok.fresh hp
  have len : (ys.map V.str).length ≤ sizeLine := by rw [List.length_map, pm.length_eq, sizeLine_eq]; omega
  have J : Inv X pins σ (upd H p (.lst (ys.map V.str))) { s with heap := s'.heap, gens := s'.gens, drawn := s'.drawn, toks := s'.toks } :=
    I.call (ch := []) (Un.laid k hp hn) (I.hok.laid k hp ⟨len, out.toList, n, vals_of_strs hS, hg⟩) (by rw [g]; exact I.bare) (fun _ z => nomatch z)
  have e : s' = { s with heap := s'.heap, gens := s'.gens, drawn := s'.drawn, toks := s'.toks } := by
    cases s'; cases s; cases o; rfl
  rw [e]
  exact ⟨.ref p, _, J, rfl, q ys p pm so hn⟩
/-- len(set) -/
def rLenW (w : World) : List V → Hp → VK → Prop := fun vs H Q => ∃ (a : Addr) (l : List Str), vs = [V.ref a] ∧ H a = some (SetO w a l) ∧ Q (.int l.length) H
theorem cr_lenW : CallR X (.builtin "len") (rLenW X.w) := by
  intro pins s σ H vs us Q I r h
  obtain ⟨a, l, rfl, ha, q⟩ := h
  rw [Vals.ref1 r]
  have R := setO_at I ha
  obtain ⟨ob, es, ep, tb, g, x, dt, ee, n, p, bb, f, r, ld⟩ := R
  have sz : es.size = l.length := by
    have := p.length_eq
    rw [List.length_map, Array.length_toList] at this
    exact this
  have big : scanBound = 4096 := rfl
  refine call_len_set g x dt f (by rw [sz]; omega) ?_
  rw [sz]
  exact ⟨.int l.length, H, I.tok _, ⟨_, rfl⟩, q⟩
end
end SS
namespace Di
open PySem PySem.Spec PyProof.Rows L2

/-! ## the small language -/
/-- a slot: nothing, data that is shared, an object of one's own, an object that the caller lent -/
inductive Sl where
  | un | sh (d : PyData) | ow (d : PyData) | rf (d : PyData)
abbrev En := List Sl
/-- a value on the way: data, what the slot i holds, a new object that nobody holds yet -/
inductive Vl where
  | d (d : PyData) | o (i : Nat) | f (d : PyData)
structure Xn where
  c : Nat
  fs : List (Str × PyData)
inductive R (α : Type) where
  | st | ok (a : α) (r : En) | ex (e : Xn) (r : En)
def R.bind {α β : Type} (m : R α) (k : α → En → R β) : R β := match m with
  | .st => .st
  | .ok a r => k a r
  | .ex e r => .ex e r
@[simp] theorem R.bind_ok {α β : Type} (a : α) (r : En) (k : α → En → R β) : (R.ok a r).bind k = k a r := rfl
@[simp] theorem R.bind_st {α β : Type} (k : α → En → R β) : (R.st : R α).bind k = .st := rfl
@[simp] theorem R.bind_ex {α β : Type} (e : Xn) (r : En) (k : α → En → R β) : (R.ex e r : R α).bind k = .ex e r := rfl

/-- the data of a slot -/
def Sl.data : Sl → Option PyData
  | .un => none
  | .sh d => some d
  | .ow d => some d
  | .rf d => some d
def Sl.own : Sl → Bool
  | .ow _ => true
  | .rf _ => true
  | _ => false
def slot (r : En) (i : Nat) : Sl := (r[i]?).getD .un
/-- the list of an own slot -/
def ownL : Sl → Option (List PyData)
  | .ow (.list xs) => some xs
  | .rf (.list xs) => some xs
  | _ => none
/-- the content of one own slot changes -/
def chg (r : En) (i : Nat) (d : PyData) : En := r.set i (match slot r i with
  | .rf _ => .rf d
  | _ => .ow d)
/-- the data of a value -/
def res (r : En) : Vl → Option PyData
  | .d d => some d
  | .f d => some d
  | .o i => (slot r i).data
/-- let a value be held elsewhere, too -/
def cap (v : Vl) (r : En) : R PyData := match v with
  | .d x => .ok x r
  | .f x => .ok x r
  | .o i => match slot r i with
    | .sh d => .ok d r
    | .ow d => .ok d (r.set i (.sh d))
    | _ => .st
def lift {α : Type} (o : Option α) (r : En) : R α := match o with
  | some a => .ok a r
  | none => .st
@[simp] theorem lift_some {α : Type} (a : α) (r : En) : lift (some a) r = .ok a r := rfl
@[simp] theorem lift_none {α : Type} (r : En) : lift (none : Option α) r = .st := rfl

inductive Bop where | add | sub | mul | fdiv | mod | pow deriving DecidableEq
inductive Cop where | eq | ne | lt | le | gt | ge | isin | notin | isb | notb deriving DecidableEq
inductive Bl where | len | list | tuple | abs | int | max | min | repr | all | str deriving DecidableEq
inductive Ty where | int | bool | str | list | tuple | dict deriving DecidableEq
inductive Tg where | n (i : Nat) | t (is : List Nat) | p (i j k : Nat)

mutual
inductive E where
  | c (d : PyData)
  | v (i : Nat)
  | gc (x : Str) (d : PyData)
  | kdx (x : Str) (ks : List (PyData × PyData)) (i : E)
  | bop (o : Bop) (a b : E)
  | rep (a b : E)
  | neg (a : E)
  | cmp (o : Cop) (a b : E)
  | chn (o1 o2 : Cop) (a b c : E)
  | isn (yes : Bool) (a : E)
  | and (a b : E)
  | or (a b : E)
  | not (a : E)
  | ite (c a b : E)
  | tup (as : Es)
  | lst (as : Es)
  | dic0
  | call (k : Nat) (as bs : Es)
  | blt (f : Bl) (as : Es)
  | rng (tup : Bool) (a b : E)
  | isi (t : Ty) (a : E)
  | ix (a i : E)
  | sl (a : E) (lo hi : Eo)
  | rev (a : E)
  | lc (t : Tg) (it : It) (co : Eo) (elt : E)
  | app (i : Nat) (a : E)
  | ext (i : Nat) (a : E)
  | pop (i : Nat)
  | srt (a : E)
  | srd (a b : E)
  | lns (a : E)
  | popi (i : Nat) (a : E)
  | jn (a b : E)
  | sfi (a b : E)
  | ins (i : Nat) (a b : E)
  | bad
inductive Es where
  | nil | cons (a : E) (as : Es) | star (a : E) (as : Es)
inductive Eo where
  | no | e (a : E)
inductive It where
  | e (a : E) | r1 (a : E) | r2 (a b : E) | zip (a b : E) | ez (a b : E) | rvr (a : E) | en (a : E)
end
mutual
inductive S where
  | asg (t : Tg) (e : E)
  | set2 (i j : Nat) (e : E)
  | aug (i : Nat) (o : Bop) (e : E)
  | six (i : Nat) (x e : E)
  | swp (i : Nat) (a b e : E)
  | dst (i : Nat) (x e : E)
  | par (is : List Nat) (as : Es)
  | exp (e : E)
  | ret (e : E)
  | retn
  | ife (c : E) (a b : Ss)
  | for_ (t : Tg) (it : It) (b : Ss)
  | whl (n : Nat) (c : E) (b : Ss)
  | brk | cnt | pas | bad
inductive Ss where
  | nil | cons (s : S) (ss : Ss)
end

def baseOk : Expr → Bool
  | .Call _ _ _ _ => false
  | _ => true
/-- the entry of a text in a dict of the module -/
def kdGet : List (PyData × PyData) → Str → Option PyData
  | [], _ => none
  | (.str y, d) :: r, x => if y = x then some d else kdGet r x
  | _ :: r, x => kdGet r x
def Es.len : Es → Nat
  | .nil => 0
  | .cons _ as => as.len + 1
  | .star _ as => as.len + 1
/-! ## what operators do to data -/
def truD : PyData → Bool
  | .none => false
  | .bool b => b
  | .int i => i != 0
  | .str x => (x.length : Int) != 0
  | .list xs => !xs.isEmpty
  | .tuple xs => !xs.isEmpty
  | .dict ks => !ks.isEmpty
/-- may its truth be asked -/
def truOk : PyData → Bool
  | .str x => decide (x.length ≤ sizeLine)
  | .dict _ => false
  | _ => true
def bopD : Bop → PyData → PyData → Option PyData
  | .add, .int i, .int j => some (.int (i + j))
  | .add, .str x, .str y => if x.length + y.length ≤ sizeLine then some (.str (x ++ y)) else none
  | .add, .tuple x, .tuple y => if x.length + y.length ≤ sizeLine then some (.tuple (x ++ y)) else none
  | .add, .list x, .list y => if x.length + y.length ≤ sizeLine then some (.list (x ++ y)) else none
  | .sub, .int i, .int j => some (.int (i - j))
  | .mul, .int i, .int j => if i.natAbs < 2 ^ 64 ∨ j.natAbs < 2 ^ 64 then some (.int (i * j)) else none
  | .mul, .tuple x, .int j => if 0 < x.length ∧ -(2 ^ 63) ≤ j ∧ j.toNat * x.length ≤ 1000000 then some (.tuple (List.replicate j.toNat x).flatten) else none
  | .fdiv, .int i, .int j => if 0 < j ∧ j < 1073741824 then some (.int (i / j)) else none
  | .mod, .int i, .int j => if 0 < j then some (.int (i % j)) else none
  | .pow, .int i, .int j => if 0 ≤ j ∧ j ≤ 1000000 ∧ i.natAbs < 2 ^ 64 then some (.int (i ^ j.toNat)) else none
  | _, _, _ => none

def lexD : List PyData → List PyData → Option Bool
  | [], [] => some false
  | [], _ :: _ => some true
  | _ :: _, [] => some false
  | .int i :: x, .int j :: y => if i = j then lexD x y else some (decide (i < j))
  | _, _ => none
def flD : PyData → Bool
  | .none => true
  | .bool _ => true
  | .int _ => true
  | .str _ => true
  | _ => false
def inD (x : PyData) (xs : List PyData) : Bool := xs.any fun y => PyData.eqv y x
def isS : PyData → Bool
  | .str _ => true
  | .none => false
  | .bool _ => false
  | .int _ => false
  | .list _ => false
  | .tuple _ => false
  | .dict _ => false
/-- a dict -/
def isK : PyData → Bool
  | .dict _ => true
  | .none => false
  | .bool _ => false
  | .int _ => false
  | .str _ => false
  | .list _ => false
  | .tuple _ => false
/-- a list beside an empty one, a tuple beside an empty one -/
def nilOk : PyData → PyData → Bool
  | .list _, .list [] => true
  | .tuple _, .tuple [] => true
  | _, _ => false
/-- may the two be compared with == -/
def cmpOk (x y : PyData) : Bool := (isS x && isS y) || ((SeqAt.shaped x && SeqAt.shaped y) || ((isK x && isS y) || nilOk x y))
/-- may x be looked for among ys -/
def memOk (x : PyData) (ys : List PyData) : Bool := (flD x && ys.all flD) || ((SeqAt.shaped x && SeqAt.shaped (.tuple ys)) || (isK x && ys.all isS))
/-- one sign -/
def sgn (x : Str) : Option Nat := match x.cps.toList with
  | [c] => some c
  | _ => none
def copD : Cop → PyData → PyData → Option PyData
  | .eq, x, y => if cmpOk x y = true then some (.bool (PyData.eqv x y)) else none
  | .ne, x, y => if cmpOk x y = true then some (.bool (!PyData.eqv x y)) else none
  | .lt, .int i, .int j => some (.bool (decide (i < j)))
  | .le, .int i, .int j => some (.bool (decide (i ≤ j)))
  | .gt, .int i, .int j => some (.bool (decide (j < i)))
  | .ge, .int i, .int j => some (.bool (decide (j ≤ i)))
  | .lt, .str i, .str j => some (.bool (decide (i.cps.toList < j.cps.toList)))
  | .le, .str i, .str j => some (.bool (!decide (j.cps.toList < i.cps.toList)))
  | .gt, .str i, .str j => some (.bool (decide (j.cps.toList < i.cps.toList)))
  | .ge, .str i, .str j => some (.bool (!decide (i.cps.toList < j.cps.toList)))
  | .isin, x, .tuple ys => if memOk x ys = true then some (.bool (inD x ys)) else none
  | .isin, x, .list ys => if memOk x ys = true then some (.bool (inD x ys)) else none
  | .isin, .str x, .str z => (sgn x).map fun c => .bool (decide (c ∈ z.cps.toList))
  | .notin, x, .tuple ys => if memOk x ys = true then some (.bool (!inD x ys)) else none
  | .notin, x, .list ys => if memOk x ys = true then some (.bool (!inD x ys)) else none
  | .notin, .str x, .str z => (sgn x).map fun c => .bool (!decide (c ∈ z.cps.toList))
  | .isb, .bool a, .bool b => some (.bool (decide (a = b)))
  | .notb, .bool a, .bool b => some (.bool (!decide (a = b)))
  | _, _, _ => none
def ixD : PyData → PyData → Option PyData
  | .tuple xs, .int i => atI xs i
  | .list xs, .int i => atI xs i
  | .str z, .int i => if z.length ≤ sizeLine then (atI z.cps.toList i).map fun c => .str ⟨#[c]⟩ else none
  | _, _ => none
def cutD (xs : List PyData) (lo hi : Option Int) : List PyData := (xs.drop (HT.sIx xs.length 0 lo)).take (HT.sIx xs.length xs.length hi - HT.sIx xs.length 0 lo)
/-- a slice; is it a new object of its own -/
def slD : PyData → Option Int → Option Int → Option Vl
  | .tuple xs, lo, hi => some (.d (.tuple (cutD xs lo hi)))
  | .list xs, lo, hi => some (.f (.list (cutD xs lo hi)))
  | .str z, lo, hi => if z.length ≤ sizeLine then some (.d (.str (cutS z lo hi))) else none
  | _, _, _ => none
def revD : PyData → Option Vl
  | .tuple xs => some (.d (.tuple xs.reverse))
  | .list xs => some (.f (.list xs.reverse))
  | _ => none
def opI : PyData → Option Int
  | .int i => some i
  | _ => none
def bls : List PyData → Option (List Bool)
  | [] => some []
  | .bool b :: r => (bls r).map (b :: ·)
  | _ => none
def nts : List PyData → Option (List Int)
  | [] => some []
  | .int b :: r => (nts r).map (b :: ·)
  | _ => none
def mxL : Int → List Int → Int
  | m, [] => m
  | m, x :: r => mxL (if x > m then x else m) r
mutual
/-- no list within -/
def nolst : PyData → Bool
  | .list _ => false
  | .tuple xs => nolstA xs
  | .dict ks => nolstD ks
  | _ => true
def nolstA : List PyData → Bool
  | [] => true
  | x :: xs => nolst x && nolstA xs
def nolstD : List (PyData × PyData) → Bool
  | [] => true
  | (_, x) :: xs => nolst x && nolstD xs
end
def rpOk (d : PyData) : Bool := d.showable && (decide (d.depth ≤ 60) && (decide (d.shown.length ≤ sizeLine) && (!d.hasDict || nolst d)))
def bltD : Bl → List PyData → Option Vl
  | .len, [.tuple xs] => some (.d (.int xs.length))
  | .len, [.list xs] => some (.d (.int xs.length))
  | .len, [.dict ks] => some (.d (.int ks.length))
  | .len, [.str z] => if z.length ≤ sizeLine then some (.d (.int z.length)) else none
  | .list, [.tuple xs] => some (.f (.list xs))
  | .list, [.list xs] => some (.f (.list xs))
  | .tuple, [.tuple xs] => some (.d (.tuple xs))
  | .tuple, [.list xs] => some (.d (.tuple xs))
  | .tuple, [.str z] => if z.length ≤ sizeLine then some (.d (.tuple (z.cps.toList.map fun c => .str ⟨#[c]⟩))) else none
  | .abs, [.int i] => some (.d (.int (if i < 0 then -i else i)))
  | .int, [.int i] => some (.d (.int i))
  | .int, [.bool b] => some (.d (.int (if b then 1 else 0)))
  | .max, [.int i, .int j] => some (.d (.int (if j > i then j else i)))
  | .min, [.int i, .int j] => some (.d (.int (if j < i then j else i)))
  | .max, [.list xs] => match nts xs with
    | some (x :: r) => some (.d (.int (mxL x r)))
    | _ => none
  | .repr, [d] => if rpOk d then some (.d (.str d.shown)) else none
  | .all, [.list xs] => (bls xs).map fun bs => .d (.bool (bs.all id))
  | .str, [.int i] => if i.natAbs.log2 < 1920 then some (.d (.str (toString i))) else none
  | _, _ => none
def isiD : Ty → PyData → Bool
  | .int, .int _ => true
  | .int, .bool _ => true
  | .bool, .bool _ => true
  | .str, .str _ => true
  | .list, .list _ => true
  | .tuple, .tuple _ => true
  | .dict, .dict _ => true
  | _, _ => false
def rgD (a b : Int) : List PyData := (List.range (b - a).toNat).map fun (i : Nat) => .int (a + i)
def rgI (a b : PyData) : Option (Int × Int) := match a, b with
  | .int i, .int j => if 0 ≤ i ∧ i ≤ 16777216 ∧ 0 ≤ j ∧ j ≤ 16777216 then some (i, j) else none
  | _, _ => none
/-- what a loop may walk -/
def itD (r : En) : PyData → Option (List PyData)
  | .tuple xs => some xs
  | .list xs => some xs
  | .str z => some (z.cps.toList.map fun c => .str ⟨#[c]⟩)
  | _ => none
/-- pairs -/
def zipD : PyData → PyData → Option (List PyData)
  | .tuple xs, .tuple ys => some (List.zipWith (fun x y => .tuple [x, y]) xs ys)
  | .list xs, .list ys => some (List.zipWith (fun x y => .tuple [x, y]) xs ys)
  | _, _ => none
/-- each beside its place -/
def enD : Nat → List PyData → List PyData
  | _, [] => []
  | n, x :: xs => .tuple [.int (n : Int), x] :: enD (n + 1) xs
def ezD (d e : PyData) : Option (List PyData) := (zipD d e).map (enD 0)
/-- texts alone -/
def strsL : List PyData → Option (List Str)
  | [] => some []
  | .str z :: r => (strsL r).map (z :: ·)
  | _ => none
def strsD : PyData → Option (List Str)
  | .list ds => strsL ds
  | .tuple ds => strsL ds
  | _ => none
/-- may a stand ahead of b -/
def leS (a b : Str) : Bool := !Spec.ltCps b.cps.toList a.cps.toList
def insS (x : Str) : List Str → List Str
  | [] => [x]
  | y :: r => if leS x y then x :: y :: r else y :: insS x r
def srtS : List Str → List Str
  | [] => []
  | x :: r => insS x (srtS r)
/-- a place that is there -/
def popD (d : PyData) (n : Nat) : Option Nat := match d with
  | .int j => if 0 ≤ j ∧ j < n ∧ n < 16777216 then some j.toNat else none
  | _ => none
/-- sorted(set(..)), sorted(set(..) - set(..)), len(set(..)) of texts -/
def srtD (d : PyData) : Option (List PyData) := (strsD d).bind fun zs => if zs.length + 1 < 4096 ∧ (SS.once zs).length < 64 then some ((srtS (SS.once zs)).map .str) else none
def setD (d : PyData) : Option (List Str) := (strsD d).bind fun zs => if zs.length + 1 < 4096 then some (SS.once zs) else none
def srdD (zs us : List Str) : Option (List PyData) := if zs.length < 64 then some ((srtS (SS.less zs us)).map .str) else none
def lnsD (d : PyData) : Option Int := (strsD d).bind fun zs => if zs.length + 1 < 4096 then some ((SS.once zs).length : Int) else none
/-- sep.join(texts); text.index(text) where it is found -/
def jnD : Str → PyData → Option PyData
  | a, d => (strsD d).bind fun ys => if (ys.map (·.length)).sum + ys.length * a.length ≤ 16777216 then some (.str (Txt.join a ys)) else none
def txV : Vl → Option Str
  | .d (.str s) => some s
  | _ => none
def sfiD : Str → PyData → Option PyData
  | a, .str b => match Builtin.Str.occurrences a b 0 a.length 1 with
    | i :: _ => some (.int (i : Nat))
    | [] => none
  | _, _ => none
def insD : PyData → Option Nat
  | .int j => if 0 ≤ j ∧ j < 2 ^ 63 then some j.toNat else none
  | _ => none
def lstD : PyData → Option (List PyData)
  | .list xs => some xs
  | _ => none
def rg62 : PyData → PyData → Option (List PyData)
  | .int i, .int j => if -(2 ^ 62) ≤ i ∧ i < 2 ^ 62 ∧ -(2 ^ 62) ≤ j ∧ j < 2 ^ 62 then some (rgD i j) else none
  | _, _ => none
/-- is a binary operator's list a new one: all lists are -/
def mkV : PyData → Vl
  | .list xs => .f (.list xs)
  | d => .d d

/-! ## functions -/
inductive Fr where
  | st | ok (fresh : Bool) (d : PyData) (outs : List PyData) | ex (e : Xn) (outs : List PyData)
/-- a function as its callers know it: which parameters it may change; what it does to data -/
structure Fn where
  md : List Bool
  run : List PyData → Fr
inductive Ar where
  | d (d : PyData) | r (i : Nat)
def Ar.data (r : En) : Ar → Option PyData
  | .d x => some x
  | .r i => if (slot r i).own then (slot r i).data else none
def Ar.slots : List Ar → List Nat
  | [] => []
  | .d _ :: l => Ar.slots l
  | .r i :: l => i :: Ar.slots l
def datas (r : En) : List Ar → Option (List PyData)
  | [] => some []
  | a :: l => match a.data r, datas r l with
    | some d, some ds => some (d :: ds)
    | _, _ => none
/-- new contents of the slots that were lent -/
def puts (r : En) : List Nat → List PyData → Option En
  | [], [] => some r
  | i :: l, d :: ds => if (slot r i).own then puts (chg r i d) l ds else none
  | _, _ => none
def nodup : List Nat → Bool
  | [] => true
  | i :: l => !l.contains i && nodup l
def back (r : En) (is : List Nat) : Fr → R Vl
  | .st => .st
  | .ok fr d outs => match puts r is outs with
    | some r' => .ok (if fr then .f d else .d d) r'
    | none => .st
  | .ex e outs => match puts r is outs with
    | some r' => .ex e r'
    | none => .st

def callK (f : Fn) (as : List Ar) (r : En) : R Vl := if nodup (Ar.slots as) then (lift (datas r as) r).bind fun ds r => back r (Ar.slots as) (f.run ds) else .st
/-- the slots of names that an assignment sets -/
def setN (r : En) (i : Nat) (s : Sl) : Option En := match slot r i with
  | .rf _ => none
  | _ => if i < r.length then some (r.set i s) else none
/-- x = v -/
def asgV (i : Nat) (v : Vl) (r : En) : R Unit := match v with
  | .d d => lift (setN r i (.sh d)) r |>.bind fun r' _ => .ok () r'
  | .f d => lift (setN r i (.ow d)) r |>.bind fun r' _ => .ok () r'
  | .o j => (cap (.o j) r).bind fun d r => lift (setN r i (.sh d)) r |>.bind fun r' _ => .ok () r'
def asgL : List Nat → List PyData → En → Option En
  | [], [], r => some r
  | i :: is, d :: ds, r => match setN r i (.sh d) with
    | some r' => asgL is ds r'
    | none => none
  | _, _, _ => none
def asgT (t : Tg) (d : PyData) (r : En) : Option En := match t with
  | .n i => setN r i (.sh d)
  | .t is => match d with
    | .tuple ds => asgL is ds r
    | .list ds => asgL is ds r
    | _ => none
  | .p i j k => match d with
    | .tuple [d0, .tuple [d1, d2]] => asgL [i, j, k] [d0, d1, d2] r
    | _ => none
def Tg.slots : Tg → List Nat
  | .n i => [i]
  | .t is => is
  | .p i j k => [i, j, k]
/-- the names of a comprehension's own hold nothing ahead of a turn -/
def wipeE (r : En) : List Nat → Option En
  | [] => some r
  | i :: is => match wipeE r is with
    | some r' => match slot r' i with
      | .ow _ => none
      | .rf _ => none
      | _ => some (r'.set i .un)
    | none => none
/-- the own objects' contents of r', the rest of r -/
def keepE : En → En → En
  | a :: r, b :: r' => (match a with
    | .ow _ => b
    | .rf _ => b
    | _ => a) :: keepE r r'
  | r, [] => r
  | [], _ => []

/-- a value's truth -/
def tst (x : Vl) (r : En) : R Bool := (lift (res r x) r).bind fun d r => if truOk d then .ok (truD d) r else .st
/-- a comprehension's turns -/
def lcGo (t : Tg) (co : En → R Bool) (elt : En → R Vl) : List PyData → En → List PyData → R (List PyData)
  | [], r, acc => .ok acc r
  | x :: xs, r, acc => (lift (asgT t x r) r).bind fun r1 _ => (co r1).bind fun c r2 =>
    if c then (elt r2).bind fun y r3 => (cap y r3).bind fun d r4 => if acc.length < sizeLine then (lift (wipeE r4 t.slots) r4).bind fun r5 _ => lcGo t co elt xs r5 (acc ++ [d]) else .st
    else (lift (wipeE r2 t.slots) r2).bind fun r5 _ => lcGo t co elt xs r5 acc
section
variable (tb : List Fn)
mutual
def ev : E → En → R Vl
  | .c d, r => .ok (.d d) r
  | .v i, r => match slot r i with
    | .sh d => .ok (.d d) r
    | .ow _ => .ok (.o i) r
    | .rf _ => .ok (.o i) r
    | .un => .st
  | .gc _ d, r => .ok (.d d) r
  | .kdx _ ks i, r => (ev i r).bind fun y r => (lift (res r y) r).bind fun y r => match y with
    | .str z => (lift (kdGet ks z) r).bind fun d r => .ok (.d d) r
    | _ => .st
  | .bop o a b, r => (ev a r).bind fun x r => (ev b r).bind fun y r => (lift (res r x) r).bind fun x r => (lift (res r y) r).bind fun y r => (lift (bopD o x y) r).bind fun z r => .ok (mkV z) r
  | .rep a b, r => (ev a r).bind fun x r => (ev b r).bind fun y r => match x with
    | .f (.list xs) => (lift (res r y) r).bind fun y r => match y with
      | .int j => if -(2 ^ 63) ≤ j ∧ j < 2 ^ 63 ∧ xs.length * j.toNat ≤ sizeLine then .ok (.f (.list (List.replicate j.toNat xs).flatten)) r else .st
      | _ => .st
    | _ => .st
  | .neg a, r => (ev a r).bind fun x r => (lift (res r x) r).bind fun x r => match x with
    | .int i => .ok (.d (.int (-i))) r
    | _ => .st
  | .cmp o a b, r => (ev a r).bind fun x r => (ev b r).bind fun y r => (lift (res r x) r).bind fun x r => (lift (res r y) r).bind fun y r => (lift (copD o x y) r).bind fun z r => .ok (.d z) r
  | .chn o1 o2 a b c, r => (ev a r).bind fun x r => (ev b r).bind fun yv r => (lift (res r x) r).bind fun x r => (lift (res r yv) r).bind fun y r => (lift (copD o1 x y) r).bind fun k r => match k with
    | .bool true => (ev c r).bind fun z r => (lift (res r yv) r).bind fun y r => (lift (res r z) r).bind fun z r => (lift (copD o2 y z) r).bind fun k r => .ok (.d k) r
    | .bool false => .ok (.d (.bool false)) r
    | _ => .st
  | .isn yes a, r => (ev a r).bind fun x r => (lift (res r x) r).bind fun x r => .ok (.d (.bool (match x with
    | .none => yes
    | _ => !yes))) r
  | .and a b, r => (ev a r).bind fun x r => (tst x r).bind fun k r => if k then ev b r else .ok x r
  | .or a b, r => (ev a r).bind fun x r => (tst x r).bind fun k r => if k then .ok x r else ev b r
  | .not a, r => (ev a r).bind fun x r => (tst x r).bind fun k r => .ok (.d (.bool (!k))) r
  | .ite c a b, r => (ev c r).bind fun x r => (tst x r).bind fun k r => if k then ev a r else ev b r
  | .tup as, r => (evs as r).bind fun ds r => if ds.length ≤ sizeLine then .ok (.d (.tuple ds)) r else .st
  | .lst as, r => (evs as r).bind fun ds r => if ds.length ≤ sizeLine then .ok (.f (.list ds)) r else .st
  | .dic0, r => .ok (.f (.dict [])) r
  | .call k as bs, r => match tb[k]? with
    | some f => (evm as (f.md.take as.len) r).bind fun ar r => (evm bs (f.md.drop as.len) r).bind fun br r => callK f (ar ++ br) r
    | none => .st
  | .blt f as, r => (evv as r).bind fun vs r => (lift (vs.mapM (res r)) r).bind fun ds r => (lift (bltD f ds) r).bind fun v r => .ok v r
  | .rng tup a b, r => (ev a r).bind fun x r => (ev b r).bind fun y r => (lift (res r x) r).bind fun x r => (lift (res r y) r).bind fun y r => (lift (rgI x y) r).bind fun p r =>
    if tup then .ok (.d (.tuple (rgD p.1 p.2))) r else .ok (.f (.list (rgD p.1 p.2))) r
  | .isi t a, r => (ev a r).bind fun x r => (lift (res r x) r).bind fun d r => .ok (.d (.bool (isiD t d))) r
  | .ix a i, r => (ev a r).bind fun x r => (ev i r).bind fun y r => (lift (res r x) r).bind fun x r => (lift (res r y) r).bind fun y r => (lift (ixD x y) r).bind fun z r => .ok (.d z) r
  | .sl a lo hi, r => (ev a r).bind fun x r => (evo lo r).bind fun l r => (evo hi r).bind fun h r => (lift (res r x) r).bind fun x r => (lift (slD x l h) r).bind fun z r => .ok z r
  | .rev a, r => (ev a r).bind fun x r => (lift (res r x) r).bind fun x r => (lift (revD x) r).bind fun z r => .ok z r
  | .lc t it co elt, r => (evi it r).bind fun xs r0 => (lift (wipeE r0 t.slots) r0).bind fun rw _ =>
    match lcGo t (evc co) (ev elt) xs rw [] with
      | .ok ds r' => .ok (.f (.list ds)) (keepE r0 r')
      | _ => .st
  | .app i a, r => (lift (ownL (slot r i)) r).bind fun _ r => (ev a r).bind fun x r => (cap x r).bind fun d r => (lift (ownL (slot r i)) r).bind fun xs r => if xs.length < sizeLine then .ok (.d .none) (chg r i (.list (xs ++ [d]))) else .st
  | .ext i a, r => (lift (ownL (slot r i)) r).bind fun _ r => (ev a r).bind fun x r => match x with
    | .f (.list ys) => (lift (ownL (slot r i)) r).bind fun xs r => if xs.length + ys.length ≤ sizeLine then .ok (.d .none) (chg r i (.list (xs ++ ys))) else .st
    | _ => .st
  | .pop i, r => (lift (ownL (slot r i)) r).bind fun xs r => (lift xs[xs.length - 1]? r).bind fun d r => .ok (.d d) (chg r i (.list xs.dropLast))
  | .srt a, r => (ev a r).bind fun x r => (lift (res r x) r).bind fun d r => (lift (srtD d) r).bind fun ys r => .ok (.f (.list ys)) r
  | .srd a b, r => (ev a r).bind fun x r => (lift (res r x) r).bind fun d r => (lift (setD d) r).bind fun zs r => (ev b r).bind fun y r => (lift (res r y) r).bind fun e r => (lift (setD e) r).bind fun us r => (lift (srdD zs us) r).bind fun ys r => .ok (.f (.list ys)) r
  | .lns a, r => (ev a r).bind fun x r => (lift (res r x) r).bind fun d r => (lift (lnsD d) r).bind fun n r => .ok (.d (.int n)) r
  | .popi i a, r => (lift (ownL (slot r i)) r).bind fun _ r => (ev a r).bind fun x r => (lift (res r x) r).bind fun d r => (lift (ownL (slot r i)) r).bind fun xs r => (lift (popD d xs.length) r).bind fun k r => (lift xs[k]? r).bind fun y r => .ok (.d y) (chg r i (.list (xs.eraseIdx k)))
  | .jn a b, r => (ev a r).bind fun x r => (lift (txV x) r).bind fun x r => (ev b r).bind fun y r => (lift (res r y) r).bind fun y r => (lift (jnD x y) r).bind fun z r => .ok (.d z) r
  | .sfi a b, r => (ev a r).bind fun x r => (lift (txV x) r).bind fun x r => (ev b r).bind fun y r => (lift (res r y) r).bind fun y r => (lift (sfiD x y) r).bind fun z r => .ok (.d z) r
  | .ins i a b, r => (lift (ownL (slot r i)) r).bind fun _ r => (ev a r).bind fun x r => (lift (res r x) r).bind fun k r => (ev b r).bind fun y r => (cap y r).bind fun d r => (lift (insD k) r).bind fun k r => (lift (ownL (slot r i)) r).bind fun xs r => if xs.length < sizeLine then .ok (.d .none) (chg r i (.list (xs.take k ++ [d] ++ xs.drop k))) else .st
  | .bad, _ => .st
def evs : Es → En → R (List PyData)
  | .nil, r => .ok [] r
  | .cons a as, r => (ev a r).bind fun x r => (cap x r).bind fun d r => (evs as r).bind fun ds r => .ok (d :: ds) r
  | .star a as, r => (ev a r).bind fun x r => (lift (res r x) r).bind fun d r => match d with
    | .list xs => (evs as r).bind fun ds r => .ok (xs ++ ds) r
    | .tuple xs => (evs as r).bind fun ds r => .ok (xs ++ ds) r
    | _ => .st
def evv : Es → En → R (List Vl)
  | .nil, r => .ok [] r
  | .cons a as, r => (ev a r).bind fun x r => (evv as r).bind fun ds r => .ok (x :: ds) r
  | .star _ _, _ => .st
def evm : Es → List Bool → En → R (List Ar)
  | .nil, [], r => .ok [] r
  | .cons a as, false :: ms, r => (ev a r).bind fun x r => (cap x r).bind fun d r => (evm as ms r).bind fun ds r => .ok (.d d :: ds) r
  | .cons a as, true :: ms, r => (ev a r).bind fun x r => (evm as ms r).bind fun ds r => match x with
    | .o i => .ok (.r i :: ds) r
    | _ => .st
  | _, _, _ => .st
def evo : Eo → En → R (Option Int)
  | .no, r => .ok none r
  | .e a, r => (ev a r).bind fun x r => (lift (res r x) r).bind fun d r => (lift (opI d) r).bind fun i r => .ok (some i) r
def evc : Eo → En → R Bool
  | .no, r => .ok true r
  | .e a, r => (ev a r).bind fun x r => tst x r
def evi : It → En → R (List PyData)
  | .e a, r => (ev a r).bind fun x r => (cap x r).bind fun d r => (lift (itD r d) r).bind fun xs r => .ok xs r
  | .r1 a, r => (ev a r).bind fun x r => (lift (res r x) r).bind fun x r => (lift (rg62 (.int 0) x) r).bind fun xs r => .ok xs r
  | .r2 a b, r => (ev a r).bind fun x r => (ev b r).bind fun y r => (lift (res r x) r).bind fun x r => (lift (res r y) r).bind fun y r => (lift (rg62 x y) r).bind fun xs r => .ok xs r
  | .zip a b, r => (ev a r).bind fun x r => (ev b r).bind fun y r => (cap x r).bind fun d r => (cap y r).bind fun e r => (lift (zipD d e) r).bind fun xs r => .ok xs r
  | .rvr a, r => (ev a r).bind fun x r => (lift (res r x) r).bind fun x r => (lift (rgI (.int 0) x) r).bind fun p r => .ok (rgD p.1 p.2).reverse r
  | .ez a b, r => (ev a r).bind fun x r => (ev b r).bind fun y r => (cap x r).bind fun d r => (cap y r).bind fun e r => (lift (ezD d e) r).bind fun xs r => .ok xs r
  | .en a, r => (ev a r).bind fun x r => (cap x r).bind fun d r => (lift (lstD d) r).bind fun xs r => .ok (enD 0 xs) r
end
end

/-! ## statements -/
def augD : Bop → Int → PyData → Option Int
  | .add, a, .int b => some (a + b)
  | .sub, a, .int b => some (a - b)
  | _, _, _ => none
inductive Fl where | nx | bk | ct | rt (fresh : Bool) (d : PyData)
def kOf : PyData → Option Key
  | .int i => some (.inl i)
  | .str x => some (.inr x)
  | _ => none
def putD (ks : List (PyData × PyData)) (k : Key) (d : PyData) : List (PyData × PyData) :=
  if (ks.any fun p => decide (kOf p.1 = some k)) = true then ks.map (fun p => if kOf p.1 = some k then (p.1, d) else p) else ks ++ [(kD k, d)]
def ownK : Sl → Option (List (PyData × PyData))
  | .ow (.dict ks) => some ks
  | .rf (.dict ks) => some ks
  | _ => none
def setC (c i d : PyData) : Option PyData := match c with
  | .list xs => match i with
    | .int i => (ixN xs.length i).map fun j => .list (xs.set j d)
    | _ => none
  | _ => none
def setO (r : En) (i : Nat) (x d : PyData) : Option En := match ownL (slot r i) with
  | some xs => (setC (.list xs) x d).map fun c' => chg r i c'
  | none => none
def forGo (t : Tg) (b : En → R Fl) : List PyData → En → R Fl
  | [], r => .ok .nx r
  | x :: xs, r => (lift (asgT t x r) r).bind fun r1 _ => (b r1).bind fun f r2 => match f with
    | .nx => forGo t b xs r2
    | .ct => forGo t b xs r2
    | .bk => .ok .nx r2
    | .rt fr d => .ok (.rt fr d) r2
def whGo (c : En → R Vl) (b : En → R Fl) : Nat → En → R Fl
  | 0, _ => .st
  | n + 1, r => (c r).bind fun x r => (tst x r).bind fun k r => if k then (b r).bind fun f r2 => match f with
    | .nx => whGo c b n r2
    | .ct => whGo c b n r2
    | .bk => .ok .nx r2
    | .rt fr d => .ok (.rt fr d) r2
    else .ok .nx r
def retV (x : Vl) (r : En) : R Fl := match x with
  | .d d => .ok (.rt false d) r
  | .f d => .ok (.rt true d) r
  | .o i => match slot r i with
    | .sh d => .ok (.rt false d) r
    | .ow d => .ok (.rt true d) r
    | _ => .st
section
variable (tb : List Fn)
mutual
def ex1 : S → En → R Fl
  | .asg t e, r => (ev tb e r).bind fun x r => match t with
    | .n i => (asgV i x r).bind fun _ r => .ok .nx r
    | .t is => (cap x r).bind fun d r => (lift (asgT (.t is) d r) r).bind fun r' _ => .ok .nx r'
    | .p _ _ _ => .st
  | .set2 i j e, r => (ev tb e r).bind fun x r => (cap x r).bind fun d r => (lift (setN r i (.sh d)) r).bind fun r _ => (lift (setN r j (.sh d)) r).bind fun r _ => .ok .nx r
  | .aug i o e, r => match slot r i with
    | .sh (.int a) => (ev tb e r).bind fun y r => (lift (res r y) r).bind fun y r => (lift (augD o a y) r).bind fun z r => (lift (setN r i (.sh (.int z))) r).bind fun r' _ => .ok .nx r'
    | _ => .st
  | .six i x e, r => (ev tb e r).bind fun y r => (cap y r).bind fun d r => (lift (ownL (slot r i)) r).bind fun _ r => (ev tb x r).bind fun k r => (lift (res r k) r).bind fun k r => (lift (setO r i k d) r).bind fun r' _ => .ok .nx r'
  | .dst i x e, r => (ev tb e r).bind fun y r => (cap y r).bind fun d r => (lift (ownK (slot r i)) r).bind fun _ r => (ev tb x r).bind fun k r => (lift (res r k) r).bind fun k r => (lift (kOf k) r).bind fun k r => (lift (ownK (slot r i)) r).bind fun ks r =>
    if ks.length < sizeLine then .ok .nx (chg r i (.dict (putD ks k d))) else .st
  | .swp i a b e, r => (ev tb e r).bind fun v r => (cap v r).bind fun v r => match v with
    | .tuple [x, y] => (lift (ownL (slot r i)) r).bind fun _ r => (ev tb a r).bind fun k r => (lift (res r k) r).bind fun k r => (lift (setO r i k x) r).bind fun r _ => (lift (ownL (slot r i)) r).bind fun _ r => (ev tb b r).bind fun k r => (lift (res r k) r).bind fun k r => (lift (setO r i k y) r).bind fun r _ => .ok .nx r
    | _ => .st
  | .par is as, r => (evs tb as r).bind fun ds r => (lift (asgL is ds r) r).bind fun r' _ => .ok .nx r'
  | .exp e, r => (ev tb e r).bind fun _ r => .ok .nx r
  | .ret e, r => (ev tb e r).bind fun x r => retV x r
  | .retn, r => .ok (.rt false .none) r
  | .ife c a b, r => (ev tb c r).bind fun x r => (tst x r).bind fun k r => if k then exs a r else exs b r
  | .for_ t it b, r => (evi tb it r).bind fun xs r => forGo t (exs b) xs r
  | .whl n c b, r => whGo (ev tb c) (exs b) n r
  | .brk, r => .ok .bk r
  | .cnt, r => .ok .ct r
  | .pas, r => .ok .nx r
  | .bad, _ => .st
def exs : Ss → En → R Fl
  | .nil, r => .ok .nx r
  | .cons s ss, r => (ex1 s r).bind fun f r => match f with
    | .nx => exs ss r
    | f => .ok f r
end
end
def initE : Nat → List Bool → List PyData → En
  | n, m :: md, d :: ds => (if m then .rf d else .sh d) :: initE (n - 1) md ds
  | n, _, _ => List.replicate n .un
def outsE : List Bool → En → Option (List PyData)
  | [], _ => some []
  | true :: md, .rf d :: r => (outsE md r).map (d :: ·)
  | false :: md, _ :: r => outsE md r
  | _, _ => none
def endF (md : List Bool) : R Fl → Fr
  | .ok (.rt fr d) r => match outsE md r with
    | some o => .ok fr d o
    | none => .st
  | .ok .nx r => match outsE md r with
    | some o => .ok false .none o
    | none => .st
  | .ex e r => match outsE md r with
    | some o => .ex e o
    | none => .st
  | _ => .st
/-- a function by its text -/
def fnRun (tb : List Fn) (n : Nat) (md : List Bool) (b : Ss) (ds : List PyData) : Fr := if ds.length = md.length ∧ md.length ≤ n then endF md (exs tb b (initE n md ds)) else .st
example (tb) (d) (r) : ev tb (.c d) r = .ok (.d d) r := rfl
example (tb) : ev tb (.bop .add (.c (.int 1)) (.c (.int 2))) [] = .ok (.d (.int 3)) [] := rfl
end Di
namespace Di
open PySem PySem.Spec PyProof.Rows L2
theorem lc_asym : ∀ {a b : List Nat}, ltCps a b = true → ltCps b a = false
  | [], [], h => by cases h
  | [], _ :: _, _ => rfl
  | _ :: _, [], h => by cases h
  | x :: r, y :: t, h => by
    simp only [ltCps, Bool.or_eq_true, decide_eq_true_eq, Bool.and_eq_true, beq_iff_eq] at h
    simp only [ltCps, Bool.or_eq_false_iff, decide_eq_false_iff_not]
    rcases h with h | ⟨h, g⟩
    · exact ⟨by omega, by rw [show (y == x) = false by simp; omega]; rfl⟩
    · subst h
      exact ⟨by omega, by rw [lc_asym g]; simp⟩
theorem lc_tri : ∀ {a b : List Nat}, ltCps a b = false → ltCps b a = false → a = b
  | [], [], _, _ => rfl
  | [], _ :: _, h, _ => by cases h
  | _ :: _, [], _, h => by cases h
  | x :: r, y :: t, h, g => by
    simp only [ltCps, Bool.or_eq_false_iff, decide_eq_false_iff_not] at h g
    have e : x = y := by omega
    subst e
    have h2 := h.2
    have g2 := g.2
    simp only [beq_self_eq_true, Bool.true_and] at h2 g2
    rw [lc_tri h2 g2]
theorem lc_mid : ∀ {a b c : List Nat}, ltCps c a = true → ltCps c b = true ∨ ltCps b a = true
  | [], b, [], h => by cases h
  | [], b, _ :: _, h => by cases h
  | _ :: _, [], [], _ => .inr rfl
  | _ :: _, _ :: _, [], _ => .inl rfl
  | x :: r, [], z :: t, h => .inr rfl
  | x :: r, y :: u, z :: t, h => by
    simp only [ltCps, Bool.or_eq_true, decide_eq_true_eq, Bool.and_eq_true, beq_iff_eq] at h ⊢
    rcases h with h | ⟨h, g⟩
    · by_cases q : z < y
      · exact .inl (.inl q)
      · exact .inr (.inl (by omega))
    · subst h
      rcases Nat.lt_trichotomy z y with q | q | q
      · exact .inl (.inl q)
      · subst q
        rcases lc_mid (b := u) g with g | g
        · exact .inl (.inr ⟨rfl, g⟩)
        · exact .inr (.inr ⟨rfl, g⟩)
      · exact .inr (.inl q)
theorem leS_total {a b : Str} : leS a b = true ∨ leS b a = true := by
  unfold leS
  cases h : ltCps b.cps.toList a.cps.toList with
  | false => exact .inl rfl
  | true => rw [lc_asym h]; exact .inr rfl
theorem leS_trans {a b c : Str} (h : leS a b = true) (g : leS b c = true) : leS a c = true := by
  unfold leS at h g ⊢
  rw [Bool.not_eq_true'] at h g ⊢
  cases q : ltCps c.cps.toList a.cps.toList with
  | false => rfl
  | true =>
    rcases lc_mid (b := b.cps.toList) q with z | z
    · rw [z] at g; cases g
    · rw [z] at h; cases h
theorem leS_anti {a b : Str} (h : leS a b = true) (g : leS b a = true) : a = b := by
  unfold leS at h g
  rw [Bool.not_eq_true'] at h g
  have e := lc_tri g h
  obtain ⟨a⟩ := a
  obtain ⟨b⟩ := b
  have e : a = b := Array.ext' e
  rw [e]
theorem ins_perm {x : Str} : ∀ {l : List Str}, (insS x l).Perm (x :: l)
  | [] => .refl _
  | y :: r => by
    unfold insS
    split
    · exact .refl _
    · exact ((ins_perm (l := r)).cons y).trans (.swap x y r)
theorem srt_perm : ∀ {l : List Str}, (srtS l).Perm l
  | [] => .refl _
  | x :: r => ins_perm.trans (srt_perm.cons x)
def Asc (l : List Str) : Prop := l.Pairwise fun a b => leS a b = true
theorem ins_asc {x : Str} : ∀ {l : List Str}, Asc l → Asc (insS x l)
  | [], _ => List.pairwise_singleton _ _
  | y :: r, h => by
    unfold insS
    have h' := List.pairwise_cons.mp h
    split
    · rename_i q
      refine List.pairwise_cons.mpr ⟨fun z hz => ?_, h⟩
      rcases List.mem_cons.mp hz with rfl | hz
      · exact q
      · exact leS_trans q (h'.1 z hz)
    · rename_i q
      refine List.pairwise_cons.mpr ⟨fun z hz => ?_, ins_asc h'.2⟩
      rcases List.mem_cons.mp (ins_perm.mem_iff.mp hz) with rfl | hz
      · exact leS_total.resolve_left q
      · exact h'.1 z hz
theorem srt_asc : ∀ {l : List Str}, Asc (srtS l)
  | [] => List.Pairwise.nil
  | x :: r => ins_asc srt_asc
theorem asc_sorted : ∀ {l : List Str}, sortedS l = true → Asc l
  | [], _ => List.Pairwise.nil
  | [x], _ => List.pairwise_singleton _ _
  | x :: y :: r, h => by
    have h : (!ltCps y.cps.toList x.cps.toList && risingS y r) = true := h
    rw [Bool.and_eq_true] at h
    have i : Asc (y :: r) := asc_sorted (l := y :: r) h.2
    refine List.pairwise_cons.mpr ⟨fun z hz => ?_, i⟩
    rcases List.mem_cons.mp hz with rfl | hz
    · exact h.1
    · exact leS_trans (b := y) h.1 ((List.pairwise_cons.mp i).1 z hz)
theorem srt_one {ys l : List Str} (p : ys.Perm l) (s : sortedS ys = true) : ys = srtS l :=
  List.Perm.eq_of_pairwise (le := fun a b => leS a b = true) (fun a b _ _ h g => leS_anti h g) (asc_sorted s) srt_asc (p.trans srt_perm.symm)
theorem strsL_eq : ∀ {ds : List PyData} {zs : List Str}, strsL ds = some zs → ds = zs.map .str
  | [], zs, h => by cases h; rfl
  | d :: ds, zs, h => by
    cases d <;> simp only [strsL] at h <;> first | (cases h; done) | skip
    rw [Option.map_eq_some_iff] at h
    obtain ⟨l, e, rfl⟩ := h
    rw [strsL_eq e]
    rfl
end Di
namespace Di
open PySem PySem.Spec PyProof.Rows L2

/-! ## what a piece of text means, by its runs -/
section
variable (X : Cx)
def SE (e : Expr) : TE := fun σ H Q => ∀ pins s, Inv X pins σ H s → wpAny (model X.prog X.w) X.A (eval e X.env) (EP X pins σ Q) X.xe s
def STt (e : Expr) : TT := fun σ H Q => ∀ pins s, Inv X pins σ H s → wpAny (model X.prog X.w) X.A (isTrue e X.env (eval e X.env)) (TP X pins σ Q) X.xe s
def SA (es : List Expr) : TA := fun σ H Q => ∀ pos pins s, Inv X pins σ H s → wpAny (model X.prog X.w) X.A (spliced (backTo pos (starEach es X.env))) (AP X pins σ Q) X.xe s
def SK (ks : List Keyword) : TA := fun σ H Q => ∀ pos pins s, Inv X pins σ H s → wpAny (model X.prog X.w) X.A (evalAll ((backToKw pos (keywordEach ks X.env)).map (·.2))) (AP X pins σ Q) X.xe s
def SS (st : Stmt) : TS := fun D σ H => ∀ pins s, Inv X pins σ H s → wpAny (model X.prog X.w) X.A (exec st X.env) (SP X pins D) X.xe s
def SSs (st : List Stmt) : TS := fun D σ H => ∀ pins s, Inv X pins σ H s → wpAny (model X.prog X.w) X.A (execs st X.env) (SP X pins D) X.xe s
def SR (f : Value → Value → Sem Value) : R2 := fun x y H Q => ∀ pins s σ v u, Inv X pins σ H s → RelV x v → RelV y u → wpAny (model X.prog X.w) X.A (f v u) (EP X pins σ Q) X.xe s
variable {X}
theorem se (e : Expr) : PE X e (SE X e) := ⟨fun pins s σ H Q I h => h pins s I⟩
theorem stt (e : Expr) : PT X e (STt X e) := ⟨fun pins s σ H Q I h => h pins s I⟩
theorem sa (es : List Expr) : PA X es (SA X es) := ⟨fun pos pins s σ H Q I h => h pos pins s I⟩
theorem sk (ks : List Keyword) : PK X ks (SK X ks) := ⟨fun pos pins s σ H Q I h => h pos pins s I⟩
theorem ss (st : Stmt) : PS X st (SS X st) := ⟨fun pins s σ H D I h => h pins s I⟩
theorem sss (st : List Stmt) : PSs X st (SSs X st) := ⟨fun pins s σ H D I h => h pins s I⟩
theorem sr (f : Value → Value → Sem Value) : OpR X f (SR X f) := fun pins s σ H x y v u Q I rx ry h => h pins s σ v u I rx ry
theorem SE.of {e : Expr} {t : TE} (h : PE X e t) {σ : L2.St} {H : Hp} {Q : VK} (q : t σ H Q) : SE X e σ H Q := fun pins s I => h.run pins s σ H Q I q
theorem STt.of {e : Expr} {t : TT} (h : PT X e t) {σ : L2.St} {H : Hp} {Q : Bool → Hp → Prop} (q : t σ H Q) : STt X e σ H Q := fun pins s I => h.run pins s σ H Q I q
theorem SA.of {e : List Expr} {t : TA} (h : PA X e t) {σ : L2.St} {H : Hp} {Q : List V → Hp → Prop} (q : t σ H Q) : SA X e σ H Q := fun pos pins s I => h.run pos pins s σ H Q I q
theorem SS.of {e : Stmt} {t : TS} (h : PS X e t) {σ : L2.St} {H : Hp} {D : Ends} (q : t D σ H) : SS X e D σ H := fun pins s I => h.run pins s σ H D I q
theorem SSs.of {e : List Stmt} {t : TS} (h : PSs X e t) {σ : L2.St} {H : Hp} {D : Ends} (q : t D σ H) : SSs X e D σ H := fun pins s I => h.run pins s σ H D I q
theorem SR.of {f : Value → Value → Sem Value} {t : R2} (h : OpR X f t) {x y : V} {H : Hp} {Q : VK} (q : t x y H Q) : SR X f x y H Q := fun pins s σ v u I rx ry => h pins s σ H x y v u Q I rx ry q
theorem SE.mono {e : Expr} {σ : L2.St} {H : Hp} {Q Q' : VK} (h : SE X e σ H Q) (k : ∀ v H', Q v H' → Q' v H') : SE X e σ H Q' := fun pins s I => thn (h pins s I) fun _ _ ⟨v, H', I', r, q⟩ => ⟨v, H', I', r, k _ _ q⟩
end

/-! ## the names' values and the slots -/
def Av (P : Addr → Prop) (al : Nat → Addr) (r : En) (a : Addr) : Prop := P a ∧ ∀ i, (slot r i).own = true → a ≠ al i
structure ER (K : PySem.W.Frag) (H0 : Hp) (P : Addr → Prop) (L : List (Nat × Addr)) (al : Nat → Addr) (H : Hp) (σ : L2.St) (r : En) : Prop where
  len : σ.length = r.length
  keep : ∀ a o, (∀ p ∈ L, a ≠ p.2) → H0 a = some o → H a = some o
  sh : ∀ i d, slot r i = .sh d → ∃ v, σ[i]? = some (some v) ∧ Rp K H (Av P al r) v d
  on : ∀ i d, (slot r i).own = true → (slot r i).data = some d → σ[i]? = some (some (.ref (al i))) ∧ Ow K H (Av P al r) (al i) d
  ow : ∀ i d, slot r i = .ow d → P (al i) ∧ H0 (al i) = none
  rf : ∀ i d, slot r i = .rf d → (i, al i) ∈ L
  inj : ∀ i j, (slot r i).own = true → (slot r j).own = true → al i = al j → i = j
  lent : ∀ p ∈ L, al p.1 = p.2 ∧ ∃ d, slot r p.1 = .rf d
  new : ∀ a, H a = none → P a
/-- how the slots go on -/
structure Up (r r' : En) : Prop where
  len : r'.length = r.length
  own : ∀ i, (slot r' i).own = true → (slot r i).own = true
  asg : ∀ i d, (slot r i).data = some d → ∃ d', (slot r' i).data = some d'
  sh : ∀ i d, slot r i = .sh d → slot r' i = .sh d
theorem Up.refl (r : En) : Up r r := ⟨rfl, fun _ h => h, fun _ d h => ⟨d, h⟩, fun _ _ h => h⟩
theorem Up.trans {a b c : En} (h : Up a b) (g : Up b c) : Up a c :=
  ⟨g.len.trans h.len, fun i e => h.own i (g.own i e), fun i d e => let ⟨d', e'⟩ := h.asg i d e; g.asg i d' e', fun i d e => g.sh i d (h.sh i d e)⟩
theorem Up.av {r r' : En} (u : Up r r') {P : Addr → Prop} {al : Nat → Addr} {a : Addr} (h : Av P al r a) : Av P al r' a := ⟨h.1, fun i e => h.2 i (u.own i e)⟩
theorem slot_set {r : En} {i j : Nat} {s : Sl} (h : i < r.length) : slot (r.set i s) j = if j = i then s else slot r j := by
  unfold slot
  by_cases e : j = i
  · subst e; rw [if_pos rfl, List.getElem?_set_self h]; rfl
  · rw [if_neg e, List.getElem?_set_ne (fun q => e q.symm)]
theorem slot_lt {r : En} {i : Nat} (h : slot r i ≠ .un) : i < r.length := by
  by_cases e : i < r.length
  · exact e
  · unfold slot at h
    rw [List.getElem?_eq_none (by omega)] at h
    exact absurd rfl h
theorem own_data {s : Sl} (h : s.own = true) : ∃ d, s.data = some d := by cases s <;> first | exact ⟨_, rfl⟩ | cases h

section
variable {K : PySem.W.Frag} {H0 H H' : Hp} {P : Addr → Prop} {L : List (Nat × Addr)} {al : Nat → Addr} {σ : L2.St} {r r' : En}
theorem ER.have0 (E : ER K H0 P L al H σ r) {a : Addr} {o : HO} (h : H0 a = some o) : ∃ o', H a = some o' := by
  by_cases q : ∀ p ∈ L, a ≠ p.2
  · exact ⟨o, E.keep a o q h⟩
  · have : ∃ p ∈ L, a = p.2 := by
      by_cases z : ∃ p ∈ L, a = p.2
      · exact z
      · exact absurd (fun p hp e => z ⟨p, hp, e⟩) q
    obtain ⟨p, hp, rfl⟩ := this
    obtain ⟨e, d, hd⟩ := E.lent p hp
    obtain ⟨_, w⟩ := E.on p.1 d (by rw [hd]; rfl) (by rw [hd]; rfl)
    rw [e] at w
    obtain ⟨o', ho, _⟩ := w.some
    exact ⟨o', ho⟩
theorem ER.back0 (E : ER K H0 P L al H σ r) {a : Addr} (h : H a = none) : H0 a = none := by
  cases q : H0 a with
  | none => rfl
  | some o => obtain ⟨o', e⟩ := E.have0 q; rw [h] at e; cases e
/-- a place that is free may be taken -/
theorem ER.free (E : ER K H0 P L al H σ r) {a : Addr} (h : H a = none) : Av P al r a := ⟨E.new a h, fun i hi e => by
  obtain ⟨d, hd⟩ := own_data hi
  obtain ⟨_, w⟩ := E.on i d hi hd
  obtain ⟨o, ho, _⟩ := w.some
  rw [← e, h] at ho; cases ho⟩
/-- the heap has grown -/
theorem ER.ext (E : ER K H0 P L al H σ r) (x : Ext H H') : ER K H0 P L al H' σ r where
  len := E.len
  keep := fun a o p e => x a o (E.keep a o p e)
  sh := fun i d e => let ⟨v, h, g⟩ := E.sh i d e; ⟨v, h, g.ext x⟩
  on := fun i d e e' => let ⟨h, g⟩ := E.on i d e e'; ⟨h, g.mono (fun o q => x _ o q) (x.kp _) fun _ p => p⟩
  ow := E.ow
  rf := E.rf
  inj := E.inj
  lent := E.lent
  new := fun a h => E.new a (x.none h)

/-- a value on the way -/
def RV (K : PySem.W.Frag) (H0 : Hp) (P : Addr → Prop) (al : Nat → Addr) (σ : L2.St) (v : V) (H : Hp) (r : En) : Vl → Prop
  | .d d => Rp K H (Av P al r) v d
  | .f d => ∃ a, v = .ref a ∧ Ow K H (Av P al r) a d ∧ Av P al r a ∧ H0 a = Option.none
  | .o i => σ[i]? = Option.some (Option.some v) ∧ ∃ d, (slot r i).data = Option.some d
theorem RV.mono {v : V} {x : Vl} (h : RV K H0 P al σ v H r x) (k : Kp (Av P al r) H H') (u : Up r r') : RV K H0 P al σ v H' r' x := by
  cases x with
  | d d => exact Rp.mono k (fun a => u.av) h
  | f d =>
    obtain ⟨a, e, w, p, n⟩ := h
    exact ⟨a, e, w.mono (fun o q => k _ o p q) k fun b => u.av, u.av p, n⟩
  | o i =>
    obtain ⟨e, d, h⟩ := h
    exact ⟨e, u.asg i d h⟩
theorem RV.vw (E : ER K H0 P L al H σ r) {v : V} {x : Vl} {d : PyData} (h : RV K H0 P al σ v H r x) (e : res r x = Option.some d) : Vw K H (Av P al r) v d := by
  cases x with
  | d d' => cases e; exact Rp.vw h
  | f d' => cases e; obtain ⟨a, rfl, w, _⟩ := h; exact w.vw
  | o i =>
    obtain ⟨e1, d1, h1⟩ := h
    have e : (slot r i).data = Option.some d := e
    cases q : slot r i with
    | un => rw [q] at e; cases e
    | sh d2 =>
      rw [q] at e; cases e
      obtain ⟨v', h2, g⟩ := E.sh i d q
      rw [e1] at h2; cases h2
      exact g.vw
    | ow d2 =>
      rw [q] at e; cases e
      obtain ⟨h2, g⟩ := E.on i d (by rw [q]; rfl) (by rw [q]; rfl)
      rw [e1] at h2; cases h2
      exact g.vw
    | rf d2 =>
      rw [q] at e; cases e
      obtain ⟨h2, g⟩ := E.on i d (by rw [q]; rfl) (by rw [q]; rfl)
      rw [e1] at h2; cases h2
      exact g.vw
/-- an own object is shared from now on -/
theorem ER.freeze (E : ER K H0 P L al H σ r) {i : Nat} {d : PyData} (e : slot r i = .ow d) : ER K H0 P L al H σ (r.set i (.sh d)) ∧ Up r (r.set i (.sh d)) := by
  have hi : i < r.length := slot_lt (by rw [e]; simp)
  have sl : ∀ j, slot (r.set i (.sh d)) j = if j = i then .sh d else slot r j := fun j => slot_set hi
  have ho : ∀ j, (slot (r.set i (.sh d)) j).own = true → j ≠ i ∧ (slot r j).own = true := fun j h => by
    rw [sl] at h
    by_cases q : j = i
    · rw [if_pos q] at h; cases h
    · rw [if_neg q] at h; exact ⟨q, h⟩
  have u : Up r (r.set i (.sh d)) := ⟨by rw [List.length_set], fun j h => (ho j h).2, fun j x h => by
      rw [sl]
      by_cases q : j = i
      · rw [if_pos q]; exact ⟨d, rfl⟩
      · rw [if_neg q]; exact ⟨x, h⟩, fun j x h => by
      rw [sl]
      by_cases q : j = i
      · subst q; rw [e] at h; cases h
      · rw [if_neg q]; exact h⟩
  have av : ∀ a, Av P al r a → Av P al (r.set i (.sh d)) a := fun a => u.av
  obtain ⟨h1, w1⟩ := E.on i d (by rw [e]; rfl) (by rw [e]; rfl)
  have ai : Av P al (r.set i (.sh d)) (al i) := ⟨(E.ow i d e).1, fun j h q => (ho j h).1 (E.inj j i (ho j h).2 (by rw [e]; rfl) q.symm)⟩
  refine ⟨⟨by rw [List.length_set]; exact E.len, E.keep, fun j x h => ?_, fun j x h h' => ?_, fun j x h => ?_, fun j x h => ?_, fun j k h g => E.inj j k (ho j h).2 (ho k g).2, fun p hp => ?_, E.new⟩, u⟩
  · rw [sl] at h
    by_cases q : j = i
    · rw [if_pos q] at h; cases h
      subst q
      exact ⟨_, h1, w1.rp av ai⟩
    · rw [if_neg q] at h
      obtain ⟨v, h2, g⟩ := E.sh j x h
      exact ⟨v, h2, g.mono (Kp.refl _ _) av⟩
  · have hj := ho j h
    rw [sl, if_neg hj.1] at h'
    obtain ⟨h2, g⟩ := E.on j x hj.2 h'
    exact ⟨h2, g.mono (fun _ q => q) (Kp.refl _ _) av⟩
  · rw [sl] at h
    by_cases q : j = i
    · rw [if_pos q] at h; cases h
    · rw [if_neg q] at h; exact E.ow j x h
  · rw [sl] at h
    by_cases q : j = i
    · rw [if_pos q] at h; cases h
    · rw [if_neg q] at h; exact E.rf j x h
  · obtain ⟨h2, x, g⟩ := E.lent p hp
    refine ⟨h2, x, ?_⟩
    rw [sl]
    by_cases q : p.1 = i
    · rw [q] at g; rw [e] at g; cases g
    · rw [if_neg q]; exact g
theorem ER.hold (E : ER K H0 P L al H σ r) {v : V} {x : Vl} {d : PyData} (h : RV K H0 P al σ v H r x) (e : cap x r = .ok d r') : ER K H0 P L al H σ r' ∧ Up r r' ∧ Rp K H (Av P al r') v d := by
  cases x with
  | d d' => cases e; exact ⟨E, Up.refl _, h⟩
  | f d' => cases e; obtain ⟨a, rfl, w, p, _⟩ := h; exact ⟨E, Up.refl _, w.rp (fun _ q => q) p⟩
  | o i =>
    obtain ⟨e1, d1, h1⟩ := h
    unfold cap at e
    simp only at e
    cases q : slot r i with
    | un => rw [q] at e; cases e
    | sh d2 =>
      rw [q] at e; cases e
      obtain ⟨v', h2, g⟩ := E.sh i d q
      rw [e1] at h2; cases h2
      exact ⟨E, Up.refl _, g⟩
    | ow d2 =>
      rw [q] at e; cases e
      obtain ⟨E', u⟩ := E.freeze q
      refine ⟨E', u, ?_⟩
      obtain ⟨v', h2, g⟩ := E'.sh i d (by rw [slot_set (slot_lt (by rw [q]; simp)), if_pos rfl])
      rw [e1] at h2; cases h2
      exact g
    | rf d2 => rw [q] at e; cases e
end
end Di
namespace Di
open PySem PySem.Spec PyProof.Rows L2

/-- what stays as it is while a body runs: the written part, the heap at the entry, where its own may stand, the slots that were lent, where the slots' objects stand, what is wished of an exception, the classes by number -/
structure Ct where
  K : PySem.W.Frag
  H0 : Hp
  P : Addr → Prop
  L : List (Nat × Addr)
  al : Nat → Addr
  W : WX
  cm : Nat → Value
abbrev Er (c : Ct) (H : Hp) (σ : L2.St) (r : En) : Prop := ER c.K c.H0 c.P c.L c.al H σ r
abbrev Av' (c : Ct) (r : En) : Addr → Prop := Av c.P c.al r
inductive RpF (K : PySem.W.Frag) (H : Hp) (P : Addr → Prop) : List (Str × V) → List (Str × PyData) → Prop
  | nil : RpF K H P [] []
  | cons {n : Str} {v : V} {vs : List (Str × V)} {d : PyData} {ds : List (Str × PyData)} : Rp K H P v d → RpF K H P vs ds → RpF K H P ((n, v) :: vs) ((n, d) :: ds)
/-- an exception: its class, its own dict -/
def XR (cm : Nat → Value) (K : PySem.W.Frag) (H : Hp) (P : Addr → Prop) (e : Xn) (cls : Value) (dd : Option Addr) : Prop :=
  cls = cm e.c ∧ ∃ d fs, dd = some d ∧ H d = some (.xd fs) ∧ RpF K H P fs e.fs
/-- what is wanted behind: Q of the value's stand-in b and the heap -/
def Post {α β : Type} (c : Ct) (σ : L2.St) (rel : β → Hp → En → α → Prop) (r : En) (H : Hp) (Q : β → Hp → Prop) : R α → Prop
  | .st => False
  | .ok x r' => ∀ b H', Er c H' σ r' → Kp (Av' c r) H H' → Up r r' → rel b H' r' x → Q b H'
  | .ex e r' => ∀ cls dd H', Er c H' σ r' → XR c.cm c.K H' (Av' c r') e cls dd → c.W cls dd σ H'
section
variable {α β γ δ : Type} {c : Ct} {σ : L2.St} {rel : β → Hp → En → α → Prop} {rel2 : δ → Hp → En → γ → Prop} {r r1 : En} {H H1 : Hp} {Q : β → Hp → Prop} {Q2 : δ → Hp → Prop}
theorem Post.rebase {m : R α} (h : Post c σ rel r H Q m) (k : Kp (Av' c r) H H1) (u : Up r r1) : Post c σ rel r1 H1 Q m := by
  cases m with
  | st => exact h
  | ok x r' => exact fun b H' E k' u' q => h b H' E (fun a o p e => k' a o (u.av p) (k a o p e)) (u.trans u') q
  | ex e r' => exact h
theorem Post.bind {m : R α} {k : α → En → R γ} (h : Post c σ rel2 r H Q2 (m.bind k))
    (hk : ∀ x r1, m = .ok x r1 → ∀ b H1, Er c H1 σ r1 → Kp (Av' c r) H H1 → Up r r1 → rel b H1 r1 x → Post c σ rel2 r1 H1 Q2 (k x r1) → Q b H1) : Post c σ rel r H Q m := by
  cases m with
  | st => exact h
  | ok x r' => exact fun b H' E k' u' q => hk x r' rfl b H' E k' u' q (Post.rebase (m := k x r') h k' u')
  | ex e r' => exact h
theorem Post.lift {o : Option γ} {k : γ → En → R α} (h : Post c σ rel r H Q ((lift o r1).bind k)) : ∃ a, o = some a ∧ Post c σ rel r H Q (k a r1) := by
  cases o with
  | none => exact False.elim h
  | some a => exact ⟨a, rfl, h⟩
theorem Post.ok {x : α} (h : Post c σ rel r H Q (.ok x r)) (E : Er c H σ r) {b : β} {H' : Hp} (e : Ext H H') (q : rel b H' r x) : Q b H' := h b H' (E.ext e) (e.kp _) (Up.refl _) q
theorem Post.imp {Q' : β → Hp → Prop} {m : R α} (h : Post c σ rel r H Q m) (k : ∀ b H', Q b H' → Q' b H') : Post c σ rel r H Q' m := by
  cases m with
  | st => exact h
  | ok x r' => exact fun b H' E k' u' q => k _ _ (h b H' E k' u' q)
  | ex e r' => exact h
end
/-- the same, with nothing at a -/
def Ct.off (c : Ct) (a : Addr) : Ct := { c with P := fun b => c.P b ∧ b ≠ a }
theorem off_av {c : Ct} {r : En} {a b : Addr} : Av' (c.off a) r b ↔ (Av' c r b ∧ b ≠ a) := ⟨fun h => ⟨⟨h.1.1, h.2⟩, h.1.2⟩, fun h => ⟨⟨h.1.1, h.2⟩, h.1.2⟩⟩
theorem Er.offn {c : Ct} {σ : L2.St} {H H' : Hp} {r : En} {a : Addr} (E : Er c H σ r) (hn : H a = none) (x : Ext H H') (hs : ∃ o, H' a = some o) : Er (c.off a) H' σ r := by
  have own : ∀ i, (slot r i).own = true → c.al i ≠ a := fun i h e => by
    obtain ⟨d, hd⟩ := own_data h
    obtain ⟨_, w⟩ := E.on i d h hd
    obtain ⟨o, ho, _⟩ := w.some
    rw [e, hn] at ho; cases ho
  have av : ∀ b, (Av' c r b ∧ b ≠ a) → Av' (c.off a) r b := fun b => off_av.mpr
  refine ⟨E.len, fun b o p e => x b o (E.keep b o p e), fun i d e => ?_, fun i d h e => ?_, fun i d e => ⟨⟨(E.ow i d e).1, own i (by rw [e]; rfl)⟩, (E.ow i d e).2⟩, E.rf, E.inj, E.lent, fun b hb => ⟨E.new b (x.none hb), fun e => ?_⟩⟩
  · obtain ⟨v, hv, g⟩ := E.sh i d e
    exact ⟨v, hv, (g.off hn).mono (x.kp _) av⟩
  · obtain ⟨hv, w⟩ := E.on i d h e
    refine ⟨hv, ?_⟩
    cases w with
    | lst w g => exact .lst (x _ _ w) ((g.off hn).mono (x.kp _) av)
    | dic w g => exact .dic (x _ _ w) ((g.off hn).mono (x.kp _) av)
  · obtain ⟨o, ho⟩ := hs
    rw [e, ho] at hb; cases hb
theorem Er.unoff {c : Ct} {σ : L2.St} {H : Hp} {r : En} {a : Addr} (E : Er (c.off a) H σ r) : Er c H σ r :=
  ⟨E.len, E.keep, fun i d e => let ⟨v, hv, g⟩ := E.sh i d e; ⟨v, hv, g.mono (Kp.refl _ _) fun b h => (off_av.mp h).1⟩, fun i d h e => let ⟨hv, w⟩ := E.on i d h e; ⟨hv, w.mono (fun _ q => q) (Kp.refl _ _) fun b h => (off_av.mp h).1⟩,
    fun i d e => ⟨(E.ow i d e).1.1, (E.ow i d e).2⟩, E.rf, E.inj, E.lent, fun b hb => (E.new b hb).1⟩
/-- nobody holds a new object yet -/
def Fs (c : Ct) (σ : L2.St) (v : V) (H : Hp) (r : En) : Vl → Prop
  | .f d => ∀ a, v = .ref a → Er (c.off a) H σ r ∧ Ow c.K H (Av' (c.off a) r) a d
  | _ => True
structure Rv (c : Ct) (σ : L2.St) (v : V) (H : Hp) (r : En) (x : Vl) : Prop where
  base : RV c.K c.H0 c.P c.al σ v H r x
  fs : Fs c σ v H r x
abbrev rv (c : Ct) (σ : L2.St) : V → Hp → En → Vl → Prop := fun v H r x => Rv c σ v H r x
theorem Rv.mono {c : Ct} {σ : L2.St} {v : V} {x : Vl} {H H' : Hp} {r r' : En} (h : Rv c σ v H r x) (k : Kp (Av' c r) H H') (u : Up r r') : RV c.K c.H0 c.P c.al σ v H' r' x := h.base.mono k u
theorem Post.okd {c : Ct} {σ : L2.St} {H H' : Hp} {r : En} {Q : VK} {d : PyData} (h : Post c σ (rv c σ) r H Q (.ok (.d d) r)) (E : Er c H σ r) {b : V} (e : Ext H H') (q : Rp c.K H' (Av' c r) b d) : Q b H' := h.ok E e ⟨q, trivial⟩
theorem Post.oko {c : Ct} {σ : L2.St} {H : Hp} {r : En} {Q : VK} {i : Nat} (h : Post c σ (rv c σ) r H Q (.ok (.o i) r)) (E : Er c H σ r) {b : V} (q : RV c.K c.H0 c.P c.al σ b H r (.o i)) : Q b H := h.ok E (Ext.refl _) ⟨q, trivial⟩

/-- a new value: no slot's -/
def Nv (K : PySem.W.Frag) (Pa : Addr → Prop) (H : Hp) (z : V) (H' : Hp) : Vl → Prop
  | .d d => Rp K H' Pa z d
  | .f d => ∃ a, z = .ref a ∧ Ow K H' (fun b => Pa b ∧ b ≠ a) a d ∧ Pa a ∧ H a = none
  | .o _ => False
def Gv (K : PySem.W.Frag) (Pa : Addr → Prop) (H : Hp) (Q : VK) (x : Vl) : Prop := ∀ z H', Ext H H' → Nv K Pa H z H' x → Q z H'
theorem Post.gv {c : Ct} {σ : L2.St} {r : En} {H : Hp} {Q : VK} {x : Vl} (h : Post c σ (rv c σ) r H Q (.ok x r)) (E : Er c H σ r) : Gv c.K (Av' c r) H Q x := fun z H' e n => by
  refine h.ok E e ?_
  cases x with
  | d d => exact ⟨n, trivial⟩
  | f d =>
    obtain ⟨a, q, w, p, hn⟩ := n
    refine ⟨⟨a, q, w.mono (fun _ q => q) (Kp.refl _ _) fun _ h => h.1, p, E.back0 hn⟩, fun a' q' => ?_⟩
    rw [q] at q'; cases q'
    exact ⟨Er.offn E hn e (let ⟨o, ho, _⟩ := w.some; ⟨o, ho⟩), w.mono (fun _ q => q) (Kp.refl _ _) fun _ h => off_av.mpr h⟩
  | o i => exact n.elim

/-! ## the operators -/
section
variable {X : Cx} {H : Hp} {Q : VK} {Pa : Addr → Prop} {x y : V}
theorem gv_new {o : HO} {p : Addr} {ds : List PyData} {xs : List V} (hf : ∀ a, H a = none → Pa a) (g : Gv X.K Pa H Q (.f (.list ds))) (hp : H p = none) (r : RpL X.K H Pa xs ds) : Q (.ref p) (upd H p (.lst xs)) :=
  g _ _ (Ext.new hp) ⟨p, rfl, .lst upd_same ((r.off hp).ext (Ext.new hp)), hf p hp, hp⟩
theorem gv_tup {p : Addr} {ds : List PyData} {xs : List V} (hf : ∀ a, H a = none → Pa a) (g : Gv X.K Pa H Q (.d (.tuple ds))) (hp : H p = none) (r : RpL X.K H Pa xs ds) : Q (.ref p) (upd H p (.tup xs)) :=
  g _ _ (Ext.new hp) (.tup (.inl ⟨hf p hp, .inl upd_same⟩) (r.ext (Ext.new hp)))
theorem gv_same {d : PyData} (g : Gv X.K Pa H Q (.d d)) {z : V} (r : Rp X.K H Pa z d) : Q z H := g _ _ (Ext.refl H) r
def bopO : Bop → Operator
  | .add => .Add | .sub => .Sub | .mul => .Mult | .fdiv => .FloorDiv | .mod => .Mod | .pow => .Pow
theorem rpl_rep {ds : List PyData} {xs : List V} (r : RpL X.K H Pa xs ds) : ∀ n : Nat, RpL X.K H Pa (List.replicate n xs).flatten (List.replicate n ds).flatten
  | 0 => .nil
  | n + 1 => by
    rw [List.replicate_succ, List.replicate_succ, List.flatten_cons, List.flatten_cons]
    exact r.append (rpl_rep r n)
/-- list + list, wherever the lists stand -/
theorem op_catL : OpR X (binaryOp .Add) (fun x y H Q => ∃ l b xs zs, x = .ref l ∧ y = .ref b ∧ LV X.K H l xs ∧ LV X.K H b zs ∧ xs.length + zs.length ≤ sizeLine ∧ ∀ p, H p = none → Q (.ref p) (upd H p (.lst (xs ++ zs)))) := by
  intro pins s σ H x y v u Q I rx ry ⟨l, b, xs, zs, e1, e2, hl, hb, hz, q⟩
  subst e1 e2
  cases rx
  cases ry
  obtain ⟨its, n, r, _, e⟩ := hl.obj I
  obtain ⟨its2, n2, r2, _, e2⟩ := hb.obj I
  have l1 := r.length
  have l2 := r2.length
  refine PySem.P.add_list e e2 ?_ (by simp; omega)
  rw [show its.toArray ++ its2.toArray = (its ++ its2).toArray by simp]
  exact ⟨V.ref _, _, I.lnew (t' := s.toks) (r.append r2) (by rw [List.length_append]; exact hz), rfl, q _ I.fresh⟩
theorem bop_ok {o : Bop} {dx dy dz : PyData} (hf : ∀ a, H a = none → Pa a) (vx : Vw X.K H Pa x dx) (vy : Vw X.K H Pa y dy) (e : bopD o dx dy = some dz) (g : Gv X.K Pa H Q (mkV dz)) : SR X (binaryOp (bopO o)) x y H Q := by
  cases o with
  | add =>
    cases vx <;> cases vy <;> simp only [bopD] at e <;> first | (cases e; done) | skip
    · cases e; exact SR.of op_add ⟨_, _, rfl, rfl, gv_same g (.int _)⟩
    · split at e
      · cases e; rename_i hl; exact SR.of op_add_str ⟨_, _, rfl, rfl, hl, gv_same g (.str _)⟩
      · cases e
    · split at e
      · cases e
        rename_i a xs ds h1 r1 b ys es h2 r2 hl
        refine SR.of op_catL ⟨a, b, xs, ys, rfl, rfl, h1, h2, by rw [r1.length, r2.length]; exact hl, fun p hp => gv_new (o := .lst []) hf g hp (r1.append r2)⟩
      · cases e
    · split at e
      · cases e
        rename_i a xs ds h1 r1 b ys es h2 r2 hl
        refine SR.of op_catA ⟨a, b, xs, ys, rfl, rfl, h1.sq, h2.sq, by rw [r1.length, r2.length]; exact hl, fun z => ?_, fun _ z => ?_, fun _ _ p hp => gv_tup hf g hp (r1.append r2)⟩
        · subst z
          cases r1
          exact gv_same g (.tup h2 r2)
        · subst z
          cases r2
          rw [List.append_nil] at g
          exact gv_same g (.tup h1 r1)
      · cases e
  | sub => cases vx <;> cases vy <;> simp only [bopD] at e <;> first | (cases e; done) | (cases e; exact SR.of op_sub ⟨_, _, rfl, rfl, gv_same g (.int _)⟩)
  | mul =>
    cases vx <;> cases vy <;> simp only [bopD] at e <;> first | (cases e; done) | skip
    · split at e
      · cases e
        rename_i i j h
        refine SR.of op_mul ⟨_, _, rfl, rfl, ?_, gv_same g (.int _)⟩
        unfold CMul
        omega
      · cases e
    · split at e
      · cases e
        rename_i a xs ds h1 r1 j h
        by_cases two : 2 ≤ j.toNat
        · refine SR.of op_repW ⟨a, j.toNat, xs, rfl, ?_, h1.sq, by rw [r1.length]; exact h.1, two, by rw [r1.length]; exact h.2.2, fun p hp => gv_tup hf g hp (rpl_rep r1 _)⟩
          rw [Int.toNat_of_nonneg (by omega)]
        · refine SR.of op_rep01 ⟨a, j, xs, rfl, rfl, h1.sq, h.2.1, by omega, by rw [r1.length]; exact h.1, fun e => ?_, fun e p hp => ?_⟩
          · subst e
            have g : Gv X.K Pa H Q (.d (.tuple (List.replicate 1 ds).flatten)) := g
            rw [List.replicate_one, List.flatten_singleton] at g
            exact gv_same g (.tup h1 r1)
          · have z : j.toNat = 0 := by omega
            rw [z] at g
            exact gv_tup hf g hp .nil
      · cases e
  | fdiv =>
    cases vx <;> cases vy <;> simp only [bopD] at e <;> first | (cases e; done) | skip
    split at e
    · cases e; rename_i h; exact SR.of op_fdiv ⟨_, _, rfl, rfl, h, gv_same g (.int _)⟩
    · cases e
  | mod =>
    cases vx <;> cases vy <;> simp only [bopD] at e <;> first | (cases e; done) | skip
    split at e
    · cases e; rename_i h; exact SR.of op_mod ⟨_, _, rfl, rfl, h, gv_same g (.int _)⟩
    · cases e
  | pow =>
    cases vx <;> cases vy <;> simp only [bopD] at e <;> first | (cases e; done) | skip
    split at e
    · cases e; rename_i h; exact SR.of op_pow ⟨_, _, rfl, rfl, h, gv_same g (.int _)⟩
    · cases e
end
end Di
namespace PySem.SeqAt
open PySem PySem.Spec
section
variable {A : Around} {E : Value → Shared → Prop} {s : Shared}
theorem deq_str (l : Addr) (ob : Obj) (n : Str) (u : Tok) :
    Meets (Builtin.«dict.__eq__» ⟨[.ref l, .str n u], []⟩) (fun _ R s => s.heap.get? l = some ob ∧ ob.cls = .type "dict" ∧ R (.ok (.ret .notImplemented)) s) :=
  .of_wp fun prog w A R s h => by
    obtain ⟨hl, hc, h⟩ := h
    show wpAny _ _ (Builtin.Dict.dictSlotArgs "__eq__" ⟨[.ref l, .str n u], []⟩ >>= _) _ _ s
    refine wpAny_bind ?_
    unfold Builtin.Dict.dictSlotArgs
    refine wpAny_bind (wpAny_notOrdered_dict ⟨_, hl, hc⟩ ?_)
    show wpAny _ _ (pure (Value.ref l, Value.str n u)) _ _ s
    refine wpAny_pure ?_
    refine wpAny_bind (wpAny_isInstance (T := "str") (typeIs_str s n u) PySem.F.sub_str_dict ?_)
    simp only [Bool.not_false, if_true]
    refine wpAny_bind (wpAny_rule ?_)
    refine wpAny_pure ?_
    exact ⟨_, rfl, h⟩
theorem dne_str (l : Addr) (ob : Obj) (n : Str) (u : Tok) :
    Meets (Builtin.«dict.__ne__» ⟨[.ref l, .str n u], []⟩) (fun _ R s => s.heap.get? l = some ob ∧ ob.cls = .type "dict" ∧ R (.ok (.ret .notImplemented)) s) :=
  .of_wp fun prog w A R s h => by
    obtain ⟨hl, hc, h⟩ := h
    show wpAny _ _ (Builtin.Dict.dictSlotArgs "__ne__" ⟨[.ref l, .str n u], []⟩ >>= _) _ _ s
    refine wpAny_bind ?_
    unfold Builtin.Dict.dictSlotArgs
    refine wpAny_bind (wpAny_notOrdered_dict ⟨_, hl, hc⟩ ?_)
    show wpAny _ _ (pure (Value.ref l, Value.str n u)) _ _ s
    refine wpAny_pure ?_
    refine wpAny_bind (wpAny_isInstance (T := "str") (typeIs_str s n u) PySem.F.sub_str_dict ?_)
    simp only [Bool.not_false, if_true]
    refine wpAny_bind (wpAny_rule ?_)
    refine wpAny_pure ?_
    exact ⟨_, rfl, h⟩
theorem seq_dict (n : Str) (u : Tok) (l : Addr) (c : Value) (dd : Option Addr) (es : Array DictEntry) (ep : Nat) (sl : Array (Option Value)) :
    Meets (Builtin.«str.__eq__» ⟨[.str n u, .ref l], []⟩) (fun _ R s => s.heap.get? l = some { cls := c, dict := dd, data := .dict es ep, slots := sl } ∧ R (.ok (.ret .notImplemented)) s) :=
  .of_wp fun prog w A R s h => by obtain ⟨hp, g, d, tk, os⟩ := s; obtain ⟨hl, h⟩ := h; wp_walk using wpAny_loadPart' hl, wpAny_load hl; exact ⟨_, rfl, h⟩
theorem sne_dict (n : Str) (u : Tok) (l : Addr) (c : Value) (dd : Option Addr) (es : Array DictEntry) (ep : Nat) (sl : Array (Option Value)) :
    Meets (Builtin.«str.__ne__» ⟨[.str n u, .ref l], []⟩) (fun _ R s => s.heap.get? l = some { cls := c, dict := dd, data := .dict es ep, slots := sl } ∧ R (.ok (.ret .notImplemented)) s) :=
  .of_wp fun prog w A R s h => by obtain ⟨hp, g, d, tk, os⟩ := s; obtain ⟨hl, h⟩ := h; wp_walk using wpAny_loadPart' hl, wpAny_load hl; exact ⟨_, rfl, h⟩
/-- a dict, as it stands in the heap -/
def IsMap (h : Heap) (l : Addr) : Prop := ∃ (dd : Option Addr) (es : Array DictEntry) (ep : Nat) (sl : Array (Option Value)), h.get? l = some { cls := .type "dict", dict := dd, data := .dict es ep, slots := sl }
theorem rc_map_str {l : Addr} (n : Str) (u : Tok) (hl : IsMap s.heap l) (hu : A.units < cLine) : RcAt A s (.ref l) (.str n u) false := fun prog w E Q h => by
  obtain ⟨dd, es, ep, sl, ho⟩ := hl
  exact rc_eq_decline_or (k := false) ⟨_, ho, rfl⟩ (typeIs_str s n u) (by decide) F.sub_str_dict F.slot_dict_eq F.slot_str_eq_refl
    (fun _ hq => call_meets F.slot_dict_eq ⟨_, ho, rfl⟩ F.entry_dict_eq (F.args_dict_eq_2 _ _) (deq_str l _ n u) ⟨ho, rfl, hq⟩)
    (fun _ hq => call_meets F.slot_str_eq_refl (typeIs_str s n u) F.entry_str_eq (F.args_str_eq_2 _ _) (seq_dict n u l (.type "dict") dd es ep sl) ⟨ho, hq⟩)
    (fun _ hq => wpAny_of_eq (rfl : isSame (.ref l) (.str n u) = pure false) hq) (.inr hu) h
theorem rc_str_map {l : Addr} (n : Str) (u : Tok) (hl : IsMap s.heap l) (hu : A.units < cLine) : RcAt A s (.str n u) (.ref l) false := fun prog w E Q h => by
  obtain ⟨dd, es, ep, sl, ho⟩ := hl
  exact rc_eq_decline_or (k := false) (typeIs_str s n u) ⟨_, ho, rfl⟩ (by decide) F.sub_dict_str F.slot_str_eq F.slot_dict_eq_refl
    (fun _ hq => call_meets F.slot_str_eq (typeIs_str s n u) F.entry_str_eq (F.args_str_eq_2 _ _) (seq_dict n u l (.type "dict") dd es ep sl) ⟨ho, hq⟩)
    (fun _ hq => call_meets F.slot_dict_eq_refl ⟨_, ho, rfl⟩ F.entry_dict_eq (F.args_dict_eq_2 _ _) (deq_str l _ n u) ⟨ho, rfl, hq⟩)
    (fun _ hq => wpAny_of_eq (rfl : isSame (.str n u) (.ref l) = pure false) hq) (.inr hu) h
theorem rn_map_str {l : Addr} (n : Str) (u : Tok) (hl : IsMap s.heap l) (hu : A.units < cLine) : RcNeAt A s (.ref l) (.str n u) true := fun prog w E Q h => by
  obtain ⟨dd, es, ep, sl, ho⟩ := hl
  exact rc_ne_decline_or (k := false) ⟨_, ho, rfl⟩ (typeIs_str s n u) (by decide) F.sub_str_dict F.slot_dict_ne F.slot_str_ne_refl
    (fun _ hq => call_meets F.slot_dict_ne ⟨_, ho, rfl⟩ F.entry_dict_ne (F.args_dict_ne_2 _ _) (dne_str l _ n u) ⟨ho, rfl, hq⟩)
    (fun _ hq => call_meets F.slot_str_ne_refl (typeIs_str s n u) F.entry_str_ne (F.args_str_ne_2 _ _) (sne_dict n u l (.type "dict") dd es ep sl) ⟨ho, hq⟩)
    (fun _ hq => wpAny_of_eq (rfl : isSame (.ref l) (.str n u) = pure false) hq) (.inr hu) h
theorem eq_str_map {l : Addr} (n : Str) (u : Tok) (hl : IsMap s.heap l) (hu : A.units < cLine) : EqAt A s (.str n u) (.ref l) false := fun prog w E Q h => by
  unfold eqBool
  refine wpAny_holding ?_
  refine wpAny_ite_split (fun hab => absurd (eq_of_beq hab) nofun) (fun _ => ?_)
  exact wpAny_bind (rc_str_map n u hl hu prog w E _ (wpAny_truthy_bool h))
end
end PySem.SeqAt
namespace L2
open PySem PySem.Spec PyProof.Rows
section
variable {X : Cx}
theorem isMap_of {pins : List (Addr × Obj)} {σ : List (Option V)} {H : Hp} {s : Shared} {a : Addr} {kvs : List (Key × V)} (I : Inv X pins σ H s) (e : Rd H a (.dK kvs)) : SeqAt.IsMap s.heap a := by
  obtain ⟨_, _, vs, _, ⟨cls, dd, data, sl⟩, es, ep, ho, ⟨h1, h2, h3⟩, hd, _⟩ := dk_rd I.hok e
  simp only at h1 h2 h3 hd
  subst h1 h2 h3 hd
  exact ⟨_, _, _, _, ho⟩
def rMapStr : R2 := fun x y H Q => ∃ (a : Addr) (kvs : List (Key × V)) (n : Str), x = .ref a ∧ Rd H a (.dK kvs) ∧ y = .str n ∧ Q (.bl false) H
def rMapStrN : R2 := fun x y H Q => ∃ (a : Addr) (kvs : List (Key × V)) (n : Str), x = .ref a ∧ Rd H a (.dK kvs) ∧ y = .str n ∧ Q (.bl true) H
theorem op_eqM (hu : X.A.units + 64 < cLine) : OpR X (compareOp .Eq) rMapStr := by
  intro pins s σ H x y v u Q I rx ry h
  obtain ⟨a, kvs, n, rfl, e, rfl, q⟩ := h
  cases rx
  obtain ⟨t, rfl⟩ := ry
  exact SeqAt.rc_map_str n t (isMap_of I e) (by omega) _ _ _ _ ⟨.bl _, H, I, rfl, q⟩
theorem op_neM (hu : X.A.units + 64 < cLine) : OpR X (compareOp .NotEq) rMapStrN := by
  intro pins s σ H x y v u Q I rx ry h
  obtain ⟨a, kvs, n, rfl, e, rfl, q⟩ := h
  cases rx
  obtain ⟨t, rfl⟩ := ry
  exact SeqAt.rn_map_str n t (isMap_of I e) (by omega) _ _ _ _ ⟨.bl _, H, I, rfl, q⟩
def strV : V → Bool
  | .str _ => true
  | _ => false
theorem strs_eqAt {A : Around} {s : Shared} {l : Addr} (hl : SeqAt.IsMap s.heap l) (hu : A.units < cLine) : ∀ {xs : List V} {us : List Value}, Vals xs us → xs.all strV = true → ∀ u ∈ us, SeqAt.EqAt A s u (.ref l) false
  | _, _, .nil, _ => fun u hu => by cases hu
  | y :: xs, u :: us, .cons r t, f => fun u' h => by
    rw [List.all_cons, Bool.and_eq_true] at f
    rcases List.mem_cons.mp h with rfl | h
    · cases y with
      | str n => obtain ⟨t', rfl⟩ := r; exact SeqAt.eq_str_map n t' hl hu
      | _ => exact absurd (show false = true from f.1) Bool.false_ne_true
    · exact strs_eqAt hl hu t f.2 u' h
def rInM (K : PySem.W.Frag) (neg : Bool) : R2 := fun x y H Q => ∃ (a p : Addr) (kvs : List (Key × V)) (xs : List V), x = .ref a ∧ Rd H a (.dK kvs) ∧ y = .ref p ∧ (SqL K H p xs ∨ SqT K H p xs) ∧ xs.all strV = true ∧ Q (.bl neg) H
theorem any_ff (l : Array Value) : l.any (fun _ => false) = false := by simp
theorem op_inM (hu : X.A.units + 65 < cLine) : OpR X (compareOp .In) (rInM X.K false) := by
  intro pins s σ H x y v u Q I rx ry h
  obtain ⟨a, p, kvs, xs, rfl, e, rfl, hq, f, q⟩ := h
  cases rx
  cases ry
  have hm := isMap_of I e
  have hr : X.A.in1.units < cLine := by show X.A.units + 1 < cLine; omega
  rcases hq with hq | hq
  · obtain ⟨its, r, pl, hz⟩ := I.list hq
    refine SeqAt.in_listAt (fun _ => false) pl.isList (fun w hw => strs_eqAt hm hr r f w (by simpa using hw)) ⟨.bl _, H, I, rfl, ?_⟩
    rw [any_ff]
    exact q
  · obtain ⟨its, r, pl, hz⟩ := I.tuple hq
    refine SeqAt.in_tupleAt (fun _ => false) pl (fun w hw => strs_eqAt hm hr r f w (by simpa using hw)) ⟨.bl _, H, I, rfl, ?_⟩
    rw [any_ff]
    exact q
theorem op_notInM (hu : X.A.units + 65 < cLine) : OpR X (compareOp .NotIn) (rInM X.K true) := by
  intro pins s σ H x y v u Q I rx ry h
  obtain ⟨a, p, kvs, xs, rfl, e, rfl, hq, f, q⟩ := h
  cases rx
  cases ry
  have hm := isMap_of I e
  have hr : X.A.in1.units < cLine := by show X.A.units + 1 < cLine; omega
  rcases hq with hq | hq
  · obtain ⟨its, r, pl, hz⟩ := I.list hq
    refine SeqAt.notIn_listAt (fun _ => false) pl.isList (fun w hw => strs_eqAt hm hr r f w (by simpa using hw)) ⟨.bl _, H, I, rfl, ?_⟩
    rw [any_ff]
    exact q
  · obtain ⟨its, r, pl, hz⟩ := I.tuple hq
    refine SeqAt.notIn_tupleAt (fun _ => false) pl (fun w hw => strs_eqAt hm hr r f w (by simpa using hw)) ⟨.bl _, H, I, rfl, ?_⟩
    rw [any_ff]
    exact q
/-- in a tuple of data of any depth -/
def rInTD (K : PySem.W.Frag) (neg : Bool) : R2 := fun x y H Q => ∃ d ds, Dp K H x d ∧ Dp K H y (.tuple ds) ∧ SeqAt.shaped d = true ∧ SeqAt.shaped (.tuple ds) = true ∧ Q (.bl (if neg then !ds.any (fun z => PyData.eqv z d) else ds.any (fun z => PyData.eqv z d))) H
theorem room_tup {A : Around} {d : PyData} {ds : List PyData} (h : SeqAt.shaped d = true) (hu : A.units + 65 < cLine) : A.units + 1 + min (PyData.depthAll ds) d.depth < cLine := by
  have h1 := SeqAt.depth_of_shaped h
  have h2 : min (PyData.depthAll ds) d.depth ≤ d.depth := Nat.min_le_right _ _
  omega
theorem op_inTD (hu : X.A.units + 65 < cLine) : OpR X (compareOp .In) (rInTD X.K false) := by
  intro pins s σ H x y v u Q I rx ry h
  obtain ⟨d, ds, hd, he, sd, se, q⟩ := h
  obtain ⟨as, r1⟩ := Dp.reads I d x v hd rx
  obtain ⟨bs, r2⟩ := Dp.reads I (.tuple ds) y u he ry
  exact SeqAt.in_tuple_reads r2 r1 (SeqAt.canLay_of_shaped se) (SeqAt.canLay_of_shaped sd) (room_tup sd hu) ⟨.bl _, H, I, rfl, q⟩
theorem op_notInTD (hu : X.A.units + 65 < cLine) : OpR X (compareOp .NotIn) (rInTD X.K true) := by
  intro pins s σ H x y v u Q I rx ry h
  obtain ⟨d, ds, hd, he, sd, se, q⟩ := h
  obtain ⟨as, r1⟩ := Dp.reads I d x v hd rx
  obtain ⟨bs, r2⟩ := Dp.reads I (.tuple ds) y u he ry
  exact SeqAt.notIn_tuple_reads r2 r1 (SeqAt.canLay_of_shaped se) (SeqAt.canLay_of_shaped sd) (room_tup sd hu) ⟨.bl _, H, I, rfl, q⟩
/-- a list beside an empty one, a tuple beside an empty one: only their lengths count -/
def rNil (K : PySem.W.Frag) (neg : Bool) : R2 := fun x y H Q => ∃ (a b : Addr) (xs : List V), x = .ref a ∧ y = .ref b ∧ ((SqL K H a xs ∧ SqL K H b []) ∨ (SqT K H a xs ∧ SqT K H b [])) ∧ Q (.bl (if neg then !xs.isEmpty else xs.isEmpty)) H
theorem vals_nil {its : List Value} (r : Vals [] its) : its = [] := by cases r; rfl
theorem op_eqNil (hu : X.A.units + 64 < cLine) : OpR X (compareOp .Eq) (rNil X.K false) := by
  intro pins s σ H x y v u Q I rx ry h
  obtain ⟨a, b, xs, rfl, rfl, hq, q⟩ := h
  cases rx
  cases ry
  have hr : X.A.units < cLine := by omega
  rcases hq with ⟨hq, hn⟩ | ⟨hq, hn⟩
  · obtain ⟨its, r, pl, hz⟩ := I.list hq
    obtain ⟨its2, r2, pl2, hz2⟩ := I.list hn
    cases vals_nil r2
    have hl := r.length
    cases xs with
    | nil =>
      cases vals_nil r
      exact SeqAt.RcAt.lists (e := fun _ => true) pl.isList pl2.isList rfl hr (fun j h1 h2 => absurd h1 (by simp)) _ _ _ _ ⟨.bl _, H, I, rfl, q⟩
    | cons z xs =>
      have hs : (its.toArray.size != ([] : List Value).toArray.size) = true := by
        simp only [List.length_cons] at hl
        simp
        rintro rfl
        simp at hl
      exact SeqAt.RcAt.lists_lengths pl.isList pl2.isList hs hr _ _ _ _ ⟨.bl _, H, I, rfl, q⟩
  · obtain ⟨its, r, pl, hz⟩ := I.tuple hq
    obtain ⟨its2, r2, pl2, hz2⟩ := I.tuple hn
    cases vals_nil r2
    have hl := r.length
    refine SeqAt.RcAt.tuples (e := fun _ => true) pl pl2 hr (fun j h1 h2 => absurd h2 (by simp)) _ _ _ _ ⟨.bl _, H, I, rfl, ?_⟩
    have e : ((List.range (min its.toArray.size ([] : List Value).toArray.size)).all (fun _ => true) && its.toArray.size == ([] : List Value).toArray.size) = xs.isEmpty := by
      cases xs with
      | nil => cases vals_nil r; rfl
      | cons z xs =>
        simp only [List.length_cons] at hl
        simp
        rintro rfl
        simp at hl
    rw [e]
    exact q
theorem op_neNil (hu : X.A.units + 64 < cLine) : OpR X (compareOp .NotEq) (rNil X.K true) := by
  intro pins s σ H x y v u Q I rx ry h
  obtain ⟨a, b, xs, rfl, rfl, hq, q⟩ := h
  cases rx
  cases ry
  have hr : X.A.units < cLine := by omega
  rcases hq with ⟨hq, hn⟩ | ⟨hq, hn⟩
  · obtain ⟨its, r, pl, hz⟩ := I.list hq
    obtain ⟨its2, r2, pl2, hz2⟩ := I.list hn
    cases vals_nil r2
    have hl := r.length
    cases xs with
    | nil =>
      cases vals_nil r
      exact SeqAt.RcNeAt.lists (e := fun _ => true) pl.isList pl2.isList rfl hr (fun j h1 h2 => absurd h1 (by simp)) _ _ _ _ ⟨.bl _, H, I, rfl, q⟩
    | cons z xs =>
      have hs : (its.toArray.size != ([] : List Value).toArray.size) = true := by
        simp only [List.length_cons] at hl
        simp
        rintro rfl
        simp at hl
      exact SeqAt.RcNeAt.lists_lengths pl.isList pl2.isList hs hr _ _ _ _ ⟨.bl _, H, I, rfl, q⟩
  · obtain ⟨its, r, pl, hz⟩ := I.tuple hq
    obtain ⟨its2, r2, pl2, hz2⟩ := I.tuple hn
    cases vals_nil r2
    have hl := r.length
    refine SeqAt.RcNeAt.tuples (e := fun _ => true) pl pl2 hr (fun j h1 h2 => absurd h2 (by simp)) _ _ _ _ ⟨.bl _, H, I, rfl, ?_⟩
    have e : ((List.range (min its.toArray.size ([] : List Value).toArray.size)).all (fun _ => true) && its.toArray.size == ([] : List Value).toArray.size) = xs.isEmpty := by
      cases xs with
      | nil => cases vals_nil r; rfl
      | cons z xs =>
        simp only [List.length_cons] at hl
        simp
        rintro rfl
        simp at hl
    rw [e]
    exact q
/-- how many keys -/
theorem call_lenK : CallR X (.builtin "len") (fun xs H Q => ∃ (a : Addr) (kvs : List (Key × V)), xs = [.ref a] ∧ Rd H a (.dK kvs) ∧ Q (.int kvs.length) H) := by
  intro pins s σ H vs us Q I r h
  obtain ⟨a, kvs, rfl, e, q⟩ := h
  rw [Vals.ref1 r]
  exact d_len I e fun t s' I' => ⟨.int kvs.length, H, I', ⟨_, rfl⟩, q⟩
end
end L2
namespace Di
open PySem PySem.Spec PyProof.Rows L2

section
variable {K : PySem.W.Frag} {H : Hp} {Pa : Addr → Prop}
mutual
theorem Rp.dp : ∀ {d : PyData} {v : V}, Rp K H Pa v d → d.canLay0 = true → Dp K H v d
  | .none, _, .non, _ => .non
  | .bool _, _, .bl b, _ => .bl b
  | .int _, _, .int i, _ => .int i
  | .str _, _, .str x, _ => .str x
  | .list ds, _, .lst h g, e => .lst h.lv.sq (RpL.dp g (by simpa only [PyData.canLay0] using e))
  | .tuple ds, _, .tup h g, e => .tup h.sq (RpL.dp g (by simpa only [PyData.canLay0] using e))
  | .dict ds, _, .dic p h g, e => by simp [PyData.canLay0] at e
theorem RpL.dp : ∀ {ds : List PyData} {vs : List V}, RpL K H Pa vs ds → PyData.canLayAll0 ds = true → DpAll K H vs ds
  | [], _, .nil, _ => .nil
  | _ :: _, _, .cons h g, e => by
    simp only [PyData.canLayAll0, Bool.and_eq_true] at e
    exact .cons (Rp.dp h e.1) (RpL.dp g e.2)
end
theorem Vw.dp {d : PyData} {v : V} (h : Vw K H Pa v d) (e : d.canLay0 = true) : Dp K H v d := by
  cases h with
  | non => exact .non
  | bl b => exact .bl b
  | int i => exact .int i
  | str x => exact .str x
  | lst h g => exact .lst h.sq (g.dp (by simpa only [PyData.canLay0] using e))
  | tup h g => exact .tup h.sq (g.dp (by simpa only [PyData.canLay0] using e))
  | dic h g => simp [PyData.canLay0] at e
theorem Vw.flat {d : PyData} {v : V} (h : Vw K H Pa v d) (e : flD d = true) : flatV v = true := by cases h <;> first | rfl | cases e
theorem RpL.flat {ds : List PyData} : ∀ {vs : List V}, RpL K H Pa vs ds → ds.all flD = true → vs.all flatV = true := by
  induction ds with
  | nil => intro vs h _; cases h; rfl
  | cons d ds ih =>
    intro vs h e
    cases h with
    | cons h g =>
      rw [List.all_cons, Bool.and_eq_true] at e ⊢
      exact ⟨h.vw.flat e.1, ih g e.2⟩
theorem Vw.eqv {d e : PyData} {v u : V} (h : Vw K H Pa v d) (g : Vw K H Pa u e) (fd : flD d = true) (fe : flD e = true) : eqV v u = PyData.eqv d e := by
  cases h <;> cases g <;> first | (cases fd; done) | (cases fe; done) | simp [eqV, PyData.eqv]
theorem RpL.inV {d : PyData} {v : V} (h : Vw K H Pa v d) (fd : flD d = true) {ds : List PyData} : ∀ {vs : List V}, RpL K H Pa vs ds → ds.all flD = true → inV v vs = inD d ds := by
  induction ds with
  | nil => intro vs g _; cases g; rfl
  | cons x ds ih =>
    intro vs g e
    cases g with
    | cons g g' =>
      rw [List.all_cons, Bool.and_eq_true] at e
      have z := ih g' e.2
      unfold L2.inV inD at z ⊢
      rw [List.any_cons, List.any_cons, z, g.vw.eqv h e.1 fd]
end

section
variable {X : Cx} {H : Hp} {Q : VK} {Pa : Addr → Prop} {x y : V} {K0 : PySem.W.Frag}
def copO : Cop → CmpOp
  | .eq => .Eq | .ne => .NotEq | .lt => .Lt | .le => .LtE | .gt => .Gt | .ge => .GtE | .isin => .In | .notin => .NotIn | .isb => .Is | .notb => .IsNot
theorem shaped_lay {d : PyData} (h : SeqAt.shaped d = true) : d.canLay0 = true := SeqAt.canLay_of_shaped h
theorem dec_strV {a b : Str} : decide (V.str a = V.str b) = (a == b) := by
  rw [Bool.eq_iff_iff]
  simp
theorem ss_str {d : PyData} {v : V} (h : Vw K0 H Pa v d) (e : isS d = true) : strV v = true := by cases h <;> first | rfl | cases e
theorem RpL.ss {ds : List PyData} : ∀ {vs : List V}, RpL K0 H Pa vs ds → ds.all isS = true → vs.all strV = true := by
  induction ds with
  | nil => intro vs h _; cases h; rfl
  | cons d ds ih =>
    intro vs h e
    cases h with
    | cons h g =>
      rw [List.all_cons, Bool.and_eq_true] at e ⊢
      exact ⟨ss_str h.vw e.1, ih g e.2⟩
theorem inD_map {d : PyData} (hk : isK d = true) : ∀ {ds : List PyData}, ds.all isS = true → inD d ds = false
  | [], _ => rfl
  | e :: ds, h => by
    rw [List.all_cons, Bool.and_eq_true] at h
    have z := inD_map hk h.2
    unfold inD at z ⊢
    rw [List.any_cons, z, Bool.or_false]
    cases e <;> first | (cases h.1; done) | skip
    cases d <;> first | (cases hk; done) | rfl
theorem sgn_eq {z : Str} {c : Nat} (h : sgn z = some c) : z = ⟨#[c]⟩ := by
  unfold sgn at h
  split at h
  · rename_i e
    cases h
    obtain ⟨a⟩ := z
    have : a = #[c] := by
      apply Array.ext'
      simpa using e
    rw [this]
  · cases h
theorem cop_ok {o : Cop} {dx dy dz : PyData} (hu : X.A.units + 65 < cLine) (vx : Vw X.K H Pa x dx) (vy : Vw X.K H Pa y dy) (e : copD o dx dy = some dz) (g : ∀ b, dz = .bool b → Q (.bl b) H) : (∃ b, dz = .bool b) ∧ SR X (compareOp (copO o)) x y H Q := by
  have hu4 : X.A.units + 64 < cLine := by omega
  cases o with
  | eq =>
    simp only [copD] at e
    split at e
    · rename_i h
      cases e
      unfold cmpOk at h
      rw [Bool.or_eq_true, Bool.or_eq_true, Bool.or_eq_true, Bool.and_eq_true, Bool.and_eq_true, Bool.and_eq_true] at h
      rcases h with h | h | h | h
      · cases vx <;> first | (cases h.1; done) | skip
        cases vy <;> first | (cases h.2; done) | skip
        refine ⟨⟨_, rfl⟩, SR.of op_eq ⟨rfl, ?_⟩⟩
        rw [dec_strV]
        exact g _ rfl
      · exact ⟨⟨_, rfl⟩, SR.of (op_eqD hu4) ⟨dx, dy, vx.dp (shaped_lay h.1), vy.dp (shaped_lay h.2), h.1, h.2, g _ rfl⟩⟩
      · cases vx <;> first | (cases h.1; done) | skip
        cases vy <;> first | (cases h.2; done) | skip
        rename_i r1 _ _
        exact ⟨⟨_, rfl⟩, SR.of (op_eqM hu4) ⟨_, _, _, rfl, r1, rfl, g _ rfl⟩⟩
      · cases vx <;> first | (cases h; done) | skip
        · cases vy <;> first | (cases h; done) | skip
          rename_i l1 r1 _ _ es l2 r2
          cases es with
          | cons e es => cases h
          | nil =>
            cases r2
            refine ⟨⟨_, rfl⟩, SR.of (op_eqNil hu4) ⟨_, _, _, rfl, rfl, .inl ⟨l1.sq, l2.sq⟩, ?_⟩⟩
            refine cast ?_ (g _ rfl)
            cases r1 <;> rfl
        · cases vy <;> first | (cases h; done) | skip
          rename_i l1 r1 _ _ es l2 r2
          cases es with
          | cons e es => cases h
          | nil =>
            cases r2
            refine ⟨⟨_, rfl⟩, SR.of (op_eqNil hu4) ⟨_, _, _, rfl, rfl, .inr ⟨l1.sq, l2.sq⟩, ?_⟩⟩
            refine cast ?_ (g _ rfl)
            cases r1 <;> rfl
    · cases e
  | ne =>
    simp only [copD] at e
    split at e
    · rename_i h
      cases e
      unfold cmpOk at h
      rw [Bool.or_eq_true, Bool.or_eq_true, Bool.or_eq_true, Bool.and_eq_true, Bool.and_eq_true, Bool.and_eq_true] at h
      rcases h with h | h | h | h
      · cases vx <;> first | (cases h.1; done) | skip
        cases vy <;> first | (cases h.2; done) | skip
        refine ⟨⟨_, rfl⟩, SR.of op_ne ⟨rfl, ?_⟩⟩
        rw [dec_strV]
        exact g _ rfl
      · exact ⟨⟨_, rfl⟩, SR.of (op_neD hu4) ⟨dx, dy, vx.dp (shaped_lay h.1), vy.dp (shaped_lay h.2), h.1, h.2, g _ rfl⟩⟩
      · cases vx <;> first | (cases h.1; done) | skip
        cases vy <;> first | (cases h.2; done) | skip
        rename_i r1 _ _
        exact ⟨⟨_, rfl⟩, SR.of (op_neM hu4) ⟨_, _, _, rfl, r1, rfl, g _ rfl⟩⟩
      · cases vx <;> first | (cases h; done) | skip
        · cases vy <;> first | (cases h; done) | skip
          rename_i l1 r1 _ _ es l2 r2
          cases es with
          | cons e es => cases h
          | nil =>
            cases r2
            refine ⟨⟨_, rfl⟩, SR.of (op_neNil hu4) ⟨_, _, _, rfl, rfl, .inl ⟨l1.sq, l2.sq⟩, ?_⟩⟩
            refine cast ?_ (g _ rfl)
            cases r1 <;> rfl
        · cases vy <;> first | (cases h; done) | skip
          rename_i l1 r1 _ _ es l2 r2
          cases es with
          | cons e es => cases h
          | nil =>
            cases r2
            refine ⟨⟨_, rfl⟩, SR.of (op_neNil hu4) ⟨_, _, _, rfl, rfl, .inr ⟨l1.sq, l2.sq⟩, ?_⟩⟩
            refine cast ?_ (g _ rfl)
            cases r1 <;> rfl
    · cases e
  | lt =>
    cases vx <;> cases vy <;> simp only [copD] at e <;> first | (cases e; done) | skip
    · cases e; exact ⟨⟨_, rfl⟩, SR.of op_lt ⟨_, _, rfl, rfl, g _ rfl⟩⟩
    · cases e; exact ⟨⟨_, rfl⟩, SR.of op_lt_str ⟨_, _, rfl, rfl, g _ rfl⟩⟩
  | le =>
    cases vx <;> cases vy <;> simp only [copD] at e <;> first | (cases e; done) | skip
    · cases e; exact ⟨⟨_, rfl⟩, SR.of op_le ⟨_, _, rfl, rfl, g _ rfl⟩⟩
    · cases e; exact ⟨⟨_, rfl⟩, SR.of op_le_str ⟨_, _, rfl, rfl, g _ rfl⟩⟩
  | gt =>
    cases vx <;> cases vy <;> simp only [copD] at e <;> first | (cases e; done) | skip
    · cases e; exact ⟨⟨_, rfl⟩, SR.of op_gt ⟨_, _, rfl, rfl, g _ rfl⟩⟩
    · cases e; exact ⟨⟨_, rfl⟩, SR.of op_gt_str ⟨_, _, rfl, rfl, g _ rfl⟩⟩
  | ge =>
    cases vx <;> cases vy <;> simp only [copD] at e <;> first | (cases e; done) | skip
    · cases e; exact ⟨⟨_, rfl⟩, SR.of op_ge ⟨_, _, rfl, rfl, g _ rfl⟩⟩
    · cases e; exact ⟨⟨_, rfl⟩, SR.of op_ge_str ⟨_, _, rfl, rfl, g _ rfl⟩⟩
  | isin =>
    cases dy <;> simp only [copD] at e <;> first | (cases e; done) | skip
    · rename_i z
      cases dx <;> simp only at e <;> first | (cases e; done) | skip
      rename_i z0
      cases q : sgn z0 with
      | none => rw [q] at e; cases e
      | some c =>
        rw [q] at e
        cases e
        cases sgn_eq q
        cases vx
        cases vy
        exact ⟨⟨_, rfl⟩, SR.of op_in_sign ⟨_, _, rfl, rfl, g _ rfl⟩⟩
    all_goals
      rename_i xs
      split at e
      · rename_i h
        cases e
        unfold memOk at h
        rw [Bool.or_eq_true, Bool.or_eq_true, Bool.and_eq_true, Bool.and_eq_true, Bool.and_eq_true] at h
        refine ⟨⟨_, rfl⟩, ?_⟩
        rcases h with h | h | h
        · cases vy
          rename_i l r
          refine SR.of op_in_seq ⟨_, _, rfl, by first | exact .inl l.sq | exact .inr l.sq, vx.flat h.1, r.flat h.2, ?_⟩
          rw [if_neg Bool.false_ne_true, r.inV vx h.1 h.2]
          exact g _ rfl
        · have hl : PyData.canLayAll0 xs = true := by simpa only [PyData.canLay0] using shaped_lay h.2
          have h2 : SeqAt.shaped (.list xs) = true := h.2
          first
          | exact SR.of (op_inD hu) ⟨dx, xs, vx.dp (shaped_lay h.1), vy.dp (by simpa only [PyData.canLay0] using hl), h.1, h.2, g _ rfl⟩
          | exact SR.of (op_inTD hu) ⟨dx, xs, vx.dp (shaped_lay h.1), vy.dp (by simpa only [PyData.canLay0] using hl), h.1, h.2, g _ rfl⟩
        · cases vy
          rename_i l r
          cases vx <;> first | (cases h.1; done) | skip
          rename_i r1 _
          refine SR.of (op_inM hu) ⟨_, _, _, _, rfl, r1, rfl, by first | exact .inl l.sq | exact .inr l.sq, RpL.ss r h.2, ?_⟩
          have z := inD_map h.1 h.2
          have y := g _ rfl
          rw [z] at y
          exact y
      · cases e
  | notin =>
    cases dy <;> simp only [copD] at e <;> first | (cases e; done) | skip
    · rename_i z
      cases dx <;> simp only at e <;> first | (cases e; done) | skip
      rename_i z0
      cases q : sgn z0 with
      | none => rw [q] at e; cases e
      | some c =>
        rw [q] at e
        cases e
        cases sgn_eq q
        cases vx
        cases vy
        exact ⟨⟨_, rfl⟩, SR.of op_notIn_sign ⟨_, _, rfl, rfl, g _ rfl⟩⟩
    all_goals
      rename_i xs
      split at e
      · rename_i h
        cases e
        unfold memOk at h
        rw [Bool.or_eq_true, Bool.or_eq_true, Bool.and_eq_true, Bool.and_eq_true, Bool.and_eq_true] at h
        refine ⟨⟨_, rfl⟩, ?_⟩
        rcases h with h | h | h
        · cases vy
          rename_i l r
          refine SR.of op_notIn_seq ⟨_, _, rfl, by first | exact .inl l.sq | exact .inr l.sq, vx.flat h.1, r.flat h.2, ?_⟩
          rw [if_pos rfl, r.inV vx h.1 h.2]
          exact g _ rfl
        · have hl : PyData.canLayAll0 xs = true := by simpa only [PyData.canLay0] using shaped_lay h.2
          have h2 : SeqAt.shaped (.list xs) = true := h.2
          first
          | exact SR.of (op_notInD hu) ⟨dx, xs, vx.dp (shaped_lay h.1), vy.dp (by simpa only [PyData.canLay0] using hl), h.1, h.2, g _ rfl⟩
          | exact SR.of (op_notInTD hu) ⟨dx, xs, vx.dp (shaped_lay h.1), vy.dp (by simpa only [PyData.canLay0] using hl), h.1, h.2, g _ rfl⟩
        · cases vy
          rename_i l r
          cases vx <;> first | (cases h.1; done) | skip
          rename_i r1 _
          refine SR.of (op_notInM hu) ⟨_, _, _, _, rfl, r1, rfl, by first | exact .inl l.sq | exact .inr l.sq, RpL.ss r h.2, ?_⟩
          have z := inD_map h.1 h.2
          have y := g _ rfl
          rw [z] at y
          exact y
      · cases e
  | isb =>
    cases vx <;> cases vy <;> simp only [copD] at e <;> first | (cases e; done) | skip
    cases e; exact ⟨⟨_, rfl⟩, SR.of op_isBl ⟨_, _, rfl, rfl, g _ rfl⟩⟩
  | notb =>
    cases vx <;> cases vy <;> simp only [copD] at e <;> first | (cases e; done) | skip
    cases e; exact ⟨⟨_, rfl⟩, SR.of op_notBl ⟨_, _, rfl, rfl, g _ rfl⟩⟩

theorem atI_rel {xs : List V} {ds : List PyData} {i : Int} {d : PyData} (r : RpL X.K H Pa xs ds) (e : atI ds i = some d) : ∃ v, atI xs i = some v ∧ Rp X.K H Pa v d := by
  unfold atI at e ⊢
  rw [r.length]
  cases q : ixN ds.length i with
  | none => rw [q] at e; cases e
  | some j =>
    rw [q] at e
    exact r.get e
theorem ix_ok {dx dy dz : PyData} (vx : Vw X.K H Pa x dx) (vy : Vw X.K H Pa y dy) (e : ixD dx dy = some dz) (g : ∀ z, Rp X.K H Pa z dz → Q z H) : rIx X.K x y H Q := by
  cases vx <;> cases vy <;> simp only [ixD] at e <;> first | (cases e; done) | skip
  · rename_i z i
    split at e
    · cases q : atI z.cps.toList i with
      | none => rw [q] at e; cases e
      | some c => rw [q] at e; cases e; exact .inr (.inr ⟨z, i, c, rfl, rfl, by assumption, q, g _ (.str _)⟩)
    · cases e
  · rename_i l r i
    obtain ⟨v, h, hv⟩ := atI_rel r e
    exact .inl ⟨_, _, _, v, rfl, rfl, l.sq, h, g _ hv⟩
  · rename_i l r i
    obtain ⟨v, h, hv⟩ := atI_rel r e
    exact .inr (.inl ⟨_, _, _, v, rfl, rfl, l.sq, h, g _ hv⟩)
theorem cut_rel {xs : List V} {ds : List PyData} {lo hi : Option Int} (r : RpL X.K H Pa xs ds) : RpL X.K H Pa (cutV xs lo hi) (cutD ds lo hi) := by
  unfold cutV cutD
  rw [r.length]
  exact (r.drop _).take _
def rSlAll (K : PySem.W.Frag) : V → Option Int → Option Int → Hp → VK → Prop := fun x lo hi H Q => rSlA K x lo hi H Q ∨ (rSlL K x lo hi H Q ∨ rSlS x lo hi H Q)
theorem sl_all : SlR X (rSlAll X.K) := sl_tupA.or (sl_list.or sl_str)
theorem sl_ok {dx : PyData} {lo hi : Option Int} {z : Vl} (hf : ∀ a, H a = none → Pa a) (vx : Vw X.K H Pa x dx) (e : slD dx lo hi = some z) (g : Gv X.K Pa H Q z) : rSlAll X.K x lo hi H Q := by
  cases vx <;> simp only [slD] at e <;> first | (cases e; done) | skip
  · split at e
    · cases e; exact .inr (.inr ⟨_, rfl, by assumption, gv_same g (.str _)⟩)
    · cases e
  · cases e
    rename_i l r
    exact .inr (.inl ⟨_, _, rfl, l.sq, fun p hp => gv_new (o := .lst []) hf g hp (cut_rel r)⟩)
  · cases e
    rename_i a xs ds l r
    refine .inl ⟨_, _, rfl, l.sq, fun w => ?_, fun _ p hp => gv_tup hf g hp (cut_rel r)⟩
    have q : cutD ds lo hi = ds := by
      unfold cutD
      rw [← r.length, w.1, w.2, List.drop_zero, r.length]
      simp
    rw [q] at g
    exact gv_same g (.tup l r)

/-! ### truth -/
theorem tru_rel {K : PySem.W.Frag} {d : PyData} (vx : Vw K H Pa x d) (e : truOk d = true) : TruV K x H (truD d) := by
  cases vx with
  | non => exact rfl
  | bl b => exact rfl
  | int i => exact rfl
  | str z => exact ⟨of_decide_eq_true e, rfl⟩
  | lst l r =>
    rename_i a xs ds
    refine .inl ⟨xs, l.sq, ?_⟩
    have := r.length
    show (!ds.isEmpty) = !xs.isEmpty
    cases xs <;> cases ds <;> first | rfl | cases this
  | tup l r =>
    rename_i a xs ds
    refine .inr (.inl ⟨xs, l.sq, ?_⟩)
    have := r.length
    show (!ds.isEmpty) = !xs.isEmpty
    cases xs <;> cases ds <;> first | rfl | cases this
  | dic l r => cases e
end
end Di
namespace Di
open PySem PySem.Spec PyProof.Rows L2

/-! ## a function as its callers know it -/
inductive AOk (K : PySem.W.Frag) (H : Hp) (Pa : Addr → Prop) : List Bool → List V → List PyData → List Addr → Prop
  | nil : AOk K H Pa [] [] [] []
  | val {ms : List Bool} {v : V} {vs : List V} {d : PyData} {ds : List PyData} {l : List Addr} : Rp K H Pa v d → AOk K H Pa ms vs ds l → AOk K H Pa (false :: ms) (v :: vs) (d :: ds) l
  | ref {ms : List Bool} {a : Addr} {vs : List V} {d : PyData} {ds : List PyData} {l : List Addr} : Ow K H Pa a d → ¬ Pa a → a ∉ l → AOk K H Pa ms vs ds l → AOk K H Pa (true :: ms) (.ref a :: vs) (d :: ds) (a :: l)
inductive OOk (K : PySem.W.Frag) (H : Hp) (Pa : Addr → Prop) : List Addr → List PyData → Prop
  | nil : OOk K H Pa [] []
  | cons {a : Addr} {l : List Addr} {d : PyData} {ds : List PyData} : Ow K H Pa a d → OOk K H Pa l ds → OOk K H Pa (a :: l) (d :: ds)
def FrP (K : PySem.W.Frag) (cm : Nat → Value) (H : Hp) (Pa : Addr → Prop) (l : List Addr) (Q : VK) (E : XK) : Fr → Prop
  | .st => False
  | .ok fr d outs => ∀ v H', Kp (fun a => a ∉ l) H H' → (if fr = true then ∃ a, v = .ref a ∧ Ow K H' (fun b => Pa b ∧ b ≠ a) a d ∧ Pa a ∧ H a = none ∧ OOk K H' (fun b => Pa b ∧ b ≠ a) l outs else Rp K H' Pa v d ∧ OOk K H' Pa l outs) → Q v H'
  | .ex e outs => ∀ cls dd H', Kp (fun a => a ∉ l) H H' → OOk K H' Pa l outs → XR cm K H' Pa e cls dd → E cls dd H'
/-- the arguments of a call: the last are by name -/
def argsOf (us : List Value) (ks : List Str) : Args := ⟨us.take (us.length - ks.length), ks.zip (us.drop (us.length - ks.length))⟩
def FnG (P : Program) (w : World) (K : PySem.W.Frag) (mg : Str → Option Value) (base : Heap) (cm : Nat → Value) (k : Nat) (f : Addr) (ks : List Str) (F : Fn) : Prop :=
  ∀ (A : Around) (outer : List Env) (s : Shared) (H : Hp) (us : List Value) (vs : List V) (Q : VK) (E : XK) (Pa : Addr → Prop) (ds : List PyData) (l : List Addr), A.guards = some [] → Room k A → Env0 P w K mg base A outer s H → Vals vs us →
    AOk K H Pa F.md vs ds l → (∀ a, H a = none → Pa a) → ks.length ≤ us.length → FrP K cm H Pa l Q E (F.run ds) → codeAny (model P w) A (.call (.ref f) (argsOf us ks)) (CR (L2.CX P w) outer P w H s Q E) s
theorem FnG.mono {P : Program} {w : World} {K : PySem.W.Frag} {mg : Str → Option Value} {base : Heap} {cm : Nat → Value} {j k : Nat} {f : Addr} {ks : List Str} {F : Fn} (h : FnG P w K mg base cm j f ks F) (e : j ≤ k) : FnG P w K mg base cm k f ks F :=
  fun A outer s H us vs Q E Pa ds l hg hr => h A outer s H us vs Q E Pa ds l hg (hr.mono e)

/-- a function's name and the names of its last arguments -/
structure Sig where
  nm : Str
  ks : List Str
/-- a name of the module that holds data; a dict of the module is only looked up -/
def GcOk (K : PySem.W.Frag) (w : World) (mg : Str → Option Value) (x : Str) : PyData → Prop
  | .dict ks => ∃ p, mg x = some (.ref p) ∧ ∀ z e, kdGet ks z = some e → ∃ v, KDct K w p z v ∧ ∀ H P, Rp K H P v e
  | d => ∃ u v, mg x = some u ∧ RelV v u ∧ ∀ H P, Rp K H P v d
def notDict : PyData → Bool
  | .dict _ => false
  | _ => true
/-- what is known where a body runs -/
structure Cok (X : Cx) (cm : Nat → Value) (sg : List Sig) (tb : List Fn) (gs : List (Str × PyData)) (k : Nat) : Prop where
  nd : X.N.Nodup
  hc : X.calm = true
  gd : X.A.guards = some []
  room : Room k X.A
  bl : ∀ x ∈ (["len", "list", "tuple", "abs", "int", "max", "min", "repr", "all", "str", "range", "isinstance", "bool", "dict", "zip", "enumerate", "reversed", "sorted", "set", "sum", "any"] : List Str), X.mg x = none
  fn : ∀ (j : Nat) (s : Sig) (f : Fn), sg[j]? = some s → tb[j]? = some f → ∃ a, X.mg s.nm = some (.ref a) ∧ PySem.W.keepIn X.K (.ref a) = true ∧ FnG X.prog X.w X.K X.mg X.base cm k a s.ks f
  gc : ∀ x d, (x, d) ∈ gs → GcOk X.K X.w X.mg x d
theorem Cok.hu {X : Cx} {cm : Nat → Value} {sg : List Sig} {tb : List Fn} {gs : List (Str × PyData)} {k : Nat} (C : Cok X cm sg tb gs k) : X.A.units + 64 < cLine := by have := C.room.un; omega
theorem Cok.hu5 {X : Cx} {cm : Nat → Value} {sg : List Sig} {tb : List Fn} {gs : List (Str × PyData)} {k : Nat} (C : Cok X cm sg tb gs k) : X.A.units + 65 < cLine := by have := C.room.un; omega

section
variable {X : Cx} {cm : Nat → Value} {sg : List Sig} {tb : List Fn} {gs : List (Str × PyData)} {k : Nat}
/-- e means what ie computes -/
def Snd (X : Cx) (cm : Nat → Value) (tb : List Fn) (ie : E) (e : Expr) : Prop :=
  ∀ (c : Ct) (r : En) (σ : L2.St) (H : Hp) (Q : VK), c.K = X.K → c.cm = cm → Takes X c.W → Er c H σ r → Post c σ (rv c σ) r H Q (ev tb ie r) → SE X e σ H Q
def AvF (c : Ct) (r : En) {H : Hp} {σ : L2.St} (E : Er c H σ r) : ∀ a, H a = none → Av' c r a := fun a h => E.free h

theorem snd_v {i : Nat} {x : Str} {p : Pos} (h1 : X.N[i]? = some x) (h2 : Vis X.env.scope x) (h3 : (x == ("__debug__" : Str)) = false) (h4 : (x == ("__classdict__" : Str)) = false) : Snd X cm tb (.v i) (.Name x p) := by
  intro c r σ H Q hK hcm tk E h
  unfold ev at h
  cases q : slot r i with
  | un => rw [q] at h; exact h.elim
  | sh d =>
    rw [q] at h
    obtain ⟨v, hv, g⟩ := E.sh i d q
    exact SE.of (pe_var h1 h2 h3 h4) ⟨v, hv, h.okd E (Ext.refl H) g⟩
  | ow d =>
    rw [q] at h
    obtain ⟨hv, g⟩ := E.on i d (by rw [q]; rfl) (by rw [q]; rfl)
    exact SE.of (pe_var h1 h2 h3 h4) ⟨_, hv, h.oko E ⟨hv, d, by rw [q]; rfl⟩⟩
  | rf d =>
    rw [q] at h
    obtain ⟨hv, g⟩ := E.on i d (by rw [q]; rfl) (by rw [q]; rfl)
    exact SE.of (pe_var h1 h2 h3 h4) ⟨_, hv, h.oko E ⟨hv, d, by rw [q]; rfl⟩⟩
theorem snd_c {d : PyData} {e : Expr} {v : V} (h : PE X e (tC v)) (hd : ∀ K H P, Rp K H P v d) : Snd X cm tb (.c d) e := by
  intro c r σ H Q hK hcm tk E q
  exact SE.of h (q.okd E (Ext.refl H) (hd _ _ _))
theorem snd_gc {x : Str} {d : PyData} {p : Pos} (C : Cok X cm sg tb gs k) (hm : (x, d) ∈ gs) (nd : notDict d = true) (hg : Gl X x) (hd : (x == ("__debug__" : Str)) = false) : Snd X cm tb (.gc x d) (.Name x p) := by
  intro c r σ H Q hK hcm tk E q
  obtain ⟨u, v, h1, h2, h3⟩ : ∃ u v, X.mg x = some u ∧ RelV v u ∧ ∀ H P, Rp X.K H P v d := by
    have z := C.gc x d hm
    cases d <;> first | exact z | cases nd
  exact SE.of (pe_glob hg h1 h2 hd) (q.okd E (Ext.refl H) (show Rp c.K H _ v d by rw [hK]; exact h3 _ _))
theorem snd_kdx {x : Str} {ks : List (PyData × PyData)} {i : E} {ei : Expr} {p p2 : Pos} (C : Cok X cm sg tb gs k) (hm : (x, .dict ks) ∈ gs) (hg : Gl X x) (hd : (x == ("__debug__" : Str)) = false) (hi : Snd X cm tb i ei) (hs : ∀ o i, subscripted ei false o i = operate [o, i] (getItem o i)) :
    Snd X cm tb (.kdx x ks i) (.Subscript (.Name x p) ei p2) := by
  intro c r σ H Q hK hcm tk E h
  unfold ev at h
  obtain ⟨q, h1, h2⟩ := C.gc x _ hm
  refine SE.of (pe_ix ix_kdict (pe_glob hg h1 (v := .ref q) rfl hd) (se ei) hs) ?_
  refine hi c r σ H _ hK hcm tk E (h.bind fun y r1 _ w H1 E1 k1 u1 q1 h1' => ?_)
  obtain ⟨dy, ey, h3⟩ := h1'.lift
  have vy := RV.vw E1 q1.base ey
  cases dy <;> first | exact h3.elim | skip
  rename_i z
  cases vy
  obtain ⟨e, he, h4⟩ := h3.lift
  obtain ⟨v, kd, rp⟩ := h2 z e he
  exact ⟨q, z, v, rfl, rfl, kd, h4.okd E1 (Ext.refl _) (by rw [hK]; exact rp _ _)⟩
theorem snd_bop {o : Bop} {a b : E} {ea eb : Expr} {p : Pos} (ha : Snd X cm tb a ea) (hb : Snd X cm tb b eb) : Snd X cm tb (.bop o a b) (.BinOp ea (bopO o) eb p) := by
  intro c r σ H Q hK hcm tk E h
  unfold ev at h
  refine SE.of (pe_op (sr _) (se ea) (se eb)) ?_
  refine ha c r σ H _ hK hcm tk E (h.bind fun x r1 _ v H1 E1 k1 u1 q1 h1 => ?_)
  refine hb c r1 σ H1 _ hK hcm tk E1 (h1.bind fun y r2 _ w H2 E2 k2 u2 q2 h2 => ?_)
  obtain ⟨dx, ex, h3⟩ := h2.lift
  obtain ⟨dy, ey, h4⟩ := h3.lift
  obtain ⟨dz, ez, h5⟩ := h4.lift
  have g := h5.gv E2
  have vx := RV.vw E2 (q1.mono k2 u2) ex
  have vy := RV.vw E2 q2.base ey
  rw [hK] at g vx vy
  exact bop_ok (AvF c r2 E2) vx vy ez g
theorem snd_rep {a b : E} {ea eb : Expr} {p : Pos} (ha : Snd X cm tb a ea) (hb : Snd X cm tb b eb) : Snd X cm tb (.rep a b) (.BinOp ea .Mult eb p) := by
  intro c r σ H Q hK hcm tk E h
  unfold ev at h
  refine SE.of (pe_op (sr _) (se ea) (se eb)) ?_
  refine ha c r σ H _ hK hcm tk E (h.bind fun x r1 _ v H1 E1 k1 u1 q1 h1 => ?_)
  refine hb c r1 σ H1 _ hK hcm tk E1 (h1.bind fun y r2 _ w H2 E2 k2 u2 q2 h2 => ?_)
  have q1 := q1.mono k2 u2
  cases x with
  | d d => exact h2.elim
  | o i => exact h2.elim
  | f d =>
    cases d <;> try exact h2.elim
    rename_i ds
    obtain ⟨dy, ey, h3⟩ := h2.lift
    have vy := RV.vw E2 q2.base ey
    cases dy <;> try exact h3.elim
    rename_i j
    simp only at h3
    split at h3
    · rename_i hj
      have g := h3.gv E2
      obtain ⟨p, rfl, w, _⟩ := q1
      cases w with
      | lst w r =>
        cases vy
        rw [hK] at g r
        exact SR.of op_rep ⟨p, j, _, rfl, rfl, w, hj.1, hj.2.1, by rw [r.length]; exact hj.2.2, fun p hp => gv_new (o := .lst []) (AvF c r2 E2) g hp (rpl_rep r _)⟩
    · exact h3.elim
theorem snd_neg {a : E} {ea : Expr} {p : Pos} (ha : Snd X cm tb a ea) : Snd X cm tb (.neg a) (.UnaryOp .USub ea p) := by
  intro c r σ H Q hK hcm tk E h
  unfold ev at h
  refine SE.of (pe_un un_neg (se ea)) ?_
  refine ha c r σ H _ hK hcm tk E (h.bind fun x r1 _ v H1 E1 k1 u1 q1 h1 => ?_)
  obtain ⟨dx, ex, h2⟩ := h1.lift
  have vx := RV.vw E1 q1.base ex
  cases dx <;> try exact h2.elim
  cases vx
  exact ⟨_, rfl, h2.okd E1 (Ext.refl _) (.int _)⟩
theorem snd_cmp {o : Cop} {a b : E} {ea eb : Expr} {p : Pos} (C : Cok X cm sg tb gs k) (ha : Snd X cm tb a ea) (hb : Snd X cm tb b eb) (hm : behindInMarks (copO o) eb = false) : Snd X cm tb (.cmp o a b) (.Compare ea [copO o] [eb] p) := by
  intro c r σ H Q hK hcm tk E h
  unfold ev at h
  refine SE.of (pe_cmpR (sr _) (se ea) (se eb) hm) ?_
  refine ha c r σ H _ hK hcm tk E (h.bind fun x r1 _ v H1 E1 k1 u1 q1 h1 => ?_)
  refine hb c r1 σ H1 _ hK hcm tk E1 (h1.bind fun y r2 _ w H2 E2 k2 u2 q2 h2 => ?_)
  obtain ⟨dx, ex, h3⟩ := h2.lift
  obtain ⟨dy, ey, h4⟩ := h3.lift
  obtain ⟨dz, ez, h5⟩ := h4.lift
  have vx := RV.vw E2 (q1.mono k2 u2) ex
  have vy := RV.vw E2 q2.base ey
  rw [hK] at vx vy
  refine (cop_ok C.hu5 vx vy ez fun b eb => ?_).2
  subst eb
  exact h5.okd E2 (Ext.refl _) (.bl b)
theorem snd_chn {o1 o2 : Cop} {a b d : E} {ea eb ed : Expr} {p : Pos} (C : Cok X cm sg tb gs k) (ha : Snd X cm tb a ea) (hb : Snd X cm tb b eb) (hd : Snd X cm tb d ed) (hm : lastMarks [copO o1, copO o2] [eb, ed] = false) :
    Snd X cm tb (.chn o1 o2 a b d) (.Compare ea [copO o1, copO o2] [eb, ed] p) := by
  intro c r σ H Q hK hcm tk E h
  unfold ev at h
  refine SE.of (pe_chain (sr _) (sr _) (se ea) (se eb) (se ed) hm) ?_
  refine ha c r σ H _ hK hcm tk E (h.bind fun x r1 _ v H1 E1 k1 u1 q1 h1 => ?_)
  refine hb c r1 σ H1 _ hK hcm tk E1 (h1.bind fun y r2 _ w H2 E2 k2 u2 q2 h2 => ?_)
  obtain ⟨dx, ex, h3⟩ := h2.lift
  obtain ⟨dy, ey, h4⟩ := h3.lift
  obtain ⟨dz, ez, h5⟩ := h4.lift
  have vx := RV.vw E2 (q1.mono k2 u2) ex
  have vy := RV.vw E2 q2.base ey
  rw [hK] at vx vy
  refine (cop_ok C.hu5 vx vy ez fun k0 ek => ?_).2
  subst ek
  refine ⟨k0, rfl, ?_⟩
  cases k0 with
  | false => exact h5.okd E2 (Ext.refl _) (.bl false)
  | true =>
    rw [if_pos rfl]
    refine hd c r2 σ H2 _ hK hcm tk E2 (h5.bind fun z r3 _ w' H3 E3 k3 u3 q3 h6 => ?_)
    obtain ⟨dy', ey', h7⟩ := h6.lift
    obtain ⟨dz', ez', h8⟩ := h7.lift
    obtain ⟨du, eu, h9⟩ := h8.lift
    have vy' := RV.vw E3 (q2.mono k3 u3) ey'
    have vz' := RV.vw E3 q3.base ez'
    rw [hK] at vy' vz'
    refine (cop_ok C.hu5 vy' vz' eu fun b eb => ?_).2
    subst eb
    exact h9.okd E3 (Ext.refl _) (.bl b)
theorem vw_non {K : PySem.W.Frag} {H : Hp} {P : Addr → Prop} {v : V} {d : PyData} (h : Vw K H P v d) : decide (v = .non) = (match d with | .none => true | _ => false) := by cases h <;> simp
theorem snd_isn {yes : Bool} {a : E} {ea : Expr} {p p' : Pos} {j : Nat} (ha : Snd X cm tb a ea) : Snd X cm tb (.isn yes a) (.Compare ea [if yes then .Is else .IsNot] [.Constant .none j p'] p) := by
  intro c r σ H Q hK hcm tk E h
  unfold ev at h
  cases yes with
  | true =>
    refine SE.of (pe_cmp (pc_isN (se ea)) (by rfl)) ?_
    refine ha c r σ H _ hK hcm tk E (h.bind fun x r1 _ v H1 E1 k1 u1 q1 h1 => ?_)
    obtain ⟨dx, ex, h2⟩ := h1.lift
    have vx := RV.vw E1 q1.base ex
    show Q (.bl (decide (v = .non))) H1
    rw [vw_non vx]
    refine h2.okd E1 (Ext.refl _) ?_
    cases dx <;> exact .bl _
  | false =>
    refine SE.of (pe_cmp (pc_notN (se ea)) (by rfl)) ?_
    refine ha c r σ H _ hK hcm tk E (h.bind fun x r1 _ v H1 E1 k1 u1 q1 h1 => ?_)
    obtain ⟨dx, ex, h2⟩ := h1.lift
    have vx := RV.vw E1 q1.base ex
    show Q (.bl (!decide (v = .non))) H1
    rw [vw_non vx]
    refine h2.okd E1 (Ext.refl _) ?_
    cases dx <;> exact .bl _

/-! ### truth, tests -/
def rb : Bool → Hp → En → Bool → Prop := fun b _ _ x => b = x
def SWt (X : Cx) (e : Expr) : TT := fun σ H Q => ∀ whole pins s, Inv X pins σ H s → wpAny (model X.prog X.w) X.A (isTrue e X.env whole) (TP X pins σ Q) X.xe s
theorem swt (e : Expr) : PW X e (SWt X e) := ⟨fun whole pins s σ H Q I h => h whole pins s I⟩
theorem SWt.of {e : Expr} {t : TT} (h : PW X e t) {σ : L2.St} {H : Hp} {Q : Bool → Hp → Prop} (q : t σ H Q) : SWt X e σ H Q := fun whole pins s I => h.run whole pins s σ H Q I q
def SndT (X : Cx) (cm : Nat → Value) (tb : List Fn) (ie : E) (e : Expr) : Prop :=
  ∀ (c : Ct) (r : En) (σ : L2.St) (H : Hp) (Q : Bool → Hp → Prop), c.K = X.K → c.cm = cm → Takes X c.W → Er c H σ r → Post c σ rb r H Q ((ev tb ie r).bind tst) → STt X e σ H Q
def SndW (X : Cx) (cm : Nat → Value) (tb : List Fn) (ie : E) (e : Expr) : Prop :=
  ∀ (c : Ct) (r : En) (σ : L2.St) (H : Hp) (Q : Bool → Hp → Prop), c.K = X.K → c.cm = cm → Takes X c.W → Er c H σ r → Post c σ rb r H Q ((ev tb ie r).bind tst) → SWt X e σ H Q
theorem SndW.t {ie : E} {e : Expr} (h : SndW X cm tb ie e) : SndT X cm tb ie e := fun c r σ H Q hK hcm tk E q pins s I => h c r σ H Q hK hcm tk E q _ pins s I
/-- what is known behind tst -/
theorem tst_ok {γ : Type} {c : Ct} {σ : L2.St} {H : Hp} {r : En} {x : Vl} {v : V} {δ : Type} {rel2 : δ → Hp → En → γ → Prop} {Q : δ → Hp → Prop} {k : Bool → En → R γ} (E : Er c H σ r) (q : rv c σ v H r x) (h : Post c σ rel2 r H Q ((tst x r).bind k)) :
    ∃ b, TruV c.K v H b ∧ Post c σ rel2 r H Q (k b r) := by
  unfold tst at h
  cases e : res r x with
  | none => rw [e] at h; exact h.elim
  | some d =>
    rw [e] at h
    simp only [lift_some, R.bind_ok] at h
    split at h
    · rename_i ho
      exact ⟨truD d, tru_rel (RV.vw E q.base e) ho, h⟩
    · exact h.elim

theorem R.bind_assoc {α β γ : Type} (m : R α) (f : α → En → R β) (g : β → En → R γ) : (m.bind f).bind g = m.bind fun a r => (f a r).bind g := by cases m <;> rfl
theorem sndT_plain {ie : E} {e : Expr} (h : Snd X cm tb ie e) (he : ∀ whole, isTrue e X.env whole = (do let v ← whole; standAt e.pos; holding [v] (truthy v))) : SndT X cm tb ie e := by
  intro c r σ H Q hK hcm tk E q
  refine STt.of (pt_truth (se e) he) ?_
  refine h c r σ H _ hK hcm tk E (q.bind fun x r1 _ v H1 E1 k1 u1 q1 h1 => ?_)
  obtain ⟨b, tv, h2⟩ := tst_ok (k := fun b r => R.ok b r) E1 q1 (by
    unfold tst at h1 ⊢
    cases e : res r1 x with
    | none => rw [e] at h1; exact h1.elim
    | some d =>
      rw [e] at h1
      simp only [lift_some, R.bind_ok] at h1 ⊢
      split at h1
      · rename_i ho; rw [if_pos ho]; exact h1
      · exact h1.elim)
  rw [hK] at tv
  exact ⟨b, tv, h2.ok E1 (Ext.refl _) rfl⟩
/-- a value that is known to be a bool -/
theorem sndT_cmp {o : Cop} {a b : E} {ea eb : Expr} {p : Pos} (C : Cok X cm sg tb gs k) (ha : Snd X cm tb a ea) (hb : Snd X cm tb b eb) (hm : behindInMarks (copO o) eb = false) : SndT X cm tb (.cmp o a b) (.Compare ea [copO o] [eb] p) := by
  intro c r σ H Q hK hcm tk E h
  unfold ev at h
  refine STt.of (pt_cmpR (sr _) (se ea) (se eb) hm) ?_
  rw [R.bind_assoc] at h
  refine ha c r σ H _ hK hcm tk E (h.bind fun x r1 _ v H1 E1 k1 u1 q1 h1 => ?_)
  rw [R.bind_assoc] at h1
  refine hb c r1 σ H1 _ hK hcm tk E1 (h1.bind fun y r2 _ w H2 E2 k2 u2 q2 h2 => ?_)
  rw [R.bind_assoc] at h2
  obtain ⟨dx, ex, h3⟩ := h2.lift
  rw [R.bind_assoc] at h3
  obtain ⟨dy, ey, h4⟩ := h3.lift
  rw [R.bind_assoc] at h4
  obtain ⟨dz, ez, h5⟩ := h4.lift
  have vx := RV.vw E2 (q1.mono k2 u2) ex
  have vy := RV.vw E2 q2.base ey
  rw [hK] at vx vy
  refine (cop_ok C.hu5 vx vy ez fun b eb => ?_).2
  subst eb
  exact ⟨b, rfl, h5.ok E2 (Ext.refl _) rfl⟩
end
end Di
namespace Di
open PySem PySem.Spec PyProof.Rows L2
section
variable {X : Cx} {cm : Nat → Value} {sg : List Sig} {tb : List Fn} {gs : List (Str × PyData)} {k : Nat}
theorem sndT_chn {o1 o2 : Cop} {a b d : E} {ea eb ed : Expr} {p : Pos} (C : Cok X cm sg tb gs k) (ha : Snd X cm tb a ea) (hb : Snd X cm tb b eb) (hd : Snd X cm tb d ed) (hm : lastMarks [copO o1, copO o2] [eb, ed] = false) :
    SndT X cm tb (.chn o1 o2 a b d) (.Compare ea [copO o1, copO o2] [eb, ed] p) := by
  intro c r σ H Q hK hcm tk E h
  unfold ev at h
  refine STt.of (pt_chain (sr _) (sr _) (se ea) (se eb) (se ed) hm) ?_
  rw [R.bind_assoc] at h
  refine ha c r σ H _ hK hcm tk E (h.bind fun x r1 _ v H1 E1 k1 u1 q1 h1 => ?_)
  rw [R.bind_assoc] at h1
  refine hb c r1 σ H1 _ hK hcm tk E1 (h1.bind fun y r2 _ w H2 E2 k2 u2 q2 h2 => ?_)
  rw [R.bind_assoc] at h2
  obtain ⟨dx, ex, h3⟩ := h2.lift
  rw [R.bind_assoc] at h3
  obtain ⟨dy, ey, h4⟩ := h3.lift
  rw [R.bind_assoc] at h4
  obtain ⟨dz, ez, h5⟩ := h4.lift
  have vx := RV.vw E2 (q1.mono k2 u2) ex
  have vy := RV.vw E2 q2.base ey
  rw [hK] at vx vy
  refine (cop_ok C.hu5 vx vy ez fun k0 ek => ?_).2
  subst ek
  refine ⟨k0, rfl, ?_⟩
  cases k0 with
  | false => exact ⟨false, rfl, h5.ok E2 (Ext.refl _) rfl⟩
  | true =>
    rw [if_pos rfl]
    simp only [R.bind_assoc] at h5
    refine hd c r2 σ H2 _ hK hcm tk E2 (h5.bind fun z r3 _ w' H3 E3 k3 u3 q3 h6 => ?_)
    obtain ⟨dy', ey', h7⟩ := h6.lift
    obtain ⟨dz', ez', h8⟩ := h7.lift
    obtain ⟨du, eu, h9⟩ := h8.lift
    have vy' := RV.vw E3 (q2.mono k3 u3) ey'
    have vz' := RV.vw E3 q3.base ez'
    rw [hK] at vy' vz'
    refine (cop_ok C.hu5 vy' vz' eu fun b eb => ?_).2
    subst eb
    exact ⟨b, rfl, h9.ok E3 (Ext.refl _) rfl⟩
theorem sndT_isn {yes : Bool} {a : E} {ea : Expr} {p p' : Pos} {j : Nat} (ha : Snd X cm tb a ea) : SndT X cm tb (.isn yes a) (.Compare ea [if yes then .Is else .IsNot] [.Constant .none j p'] p) := by
  intro c r σ H Q hK hcm tk E h
  unfold ev at h
  rw [R.bind_assoc] at h
  cases yes with
  | true =>
    refine STt.of (pt_cmp (pc_isN (se ea)) (by rfl)) ?_
    refine ha c r σ H _ hK hcm tk E (h.bind fun x r1 _ v H1 E1 k1 u1 q1 h1 => ?_)
    rw [R.bind_assoc] at h1
    obtain ⟨dx, ex, h2⟩ := h1.lift
    have vx := RV.vw E1 q1.base ex
    refine ⟨_, rfl, ?_⟩
    rw [vw_non vx]
    exact h2.ok E1 (Ext.refl _) (by cases dx <;> rfl)
  | false =>
    refine STt.of (pt_cmp (pc_notN (se ea)) (by rfl)) ?_
    refine ha c r σ H _ hK hcm tk E (h.bind fun x r1 _ v H1 E1 k1 u1 q1 h1 => ?_)
    rw [R.bind_assoc] at h1
    obtain ⟨dx, ex, h2⟩ := h1.lift
    have vx := RV.vw E1 q1.base ex
    refine ⟨_, rfl, ?_⟩
    rw [vw_non vx]
    exact h2.ok E1 (Ext.refl _) (by cases dx <;> rfl)
theorem tst_bool {b : Bool} {r : En} : tst (.d (.bool b)) r = .ok b r := rfl
theorem sndT_not {a : E} {ea : Expr} {p : Pos} (ha : SndT X cm tb a ea) : SndT X cm tb (.not a) (.UnaryOp .Not ea p) := by
  intro c r σ H Q hK hcm tk E h
  unfold ev at h
  simp only [R.bind_assoc, R.bind_ok, tst_bool] at h
  refine STt.of (pt_not (stt ea)) ?_
  refine ha c r σ H _ hK hcm tk E ?_
  rw [← R.bind_assoc] at h
  refine h.bind fun b r1 _ b' H1 E1 k1 u1 q1 h1 => ?_
  have e : b' = b := q1
  subst e
  exact h1.ok E1 (Ext.refl _) rfl
theorem snd_not {a : E} {ea : Expr} {p : Pos} (ha : Snd X cm tb a ea) : Snd X cm tb (.not a) (.UnaryOp .Not ea p) := by
  intro c r σ H Q hK hcm tk E h
  unfold ev at h
  refine SE.of (pe_notT (se ea)) ?_
  refine ha c r σ H _ hK hcm tk E (h.bind fun x r1 _ v H1 E1 k1 u1 q1 h1 => ?_)
  obtain ⟨b, tv, h2⟩ := tst_ok E1 q1 h1
  rw [hK] at tv
  exact ⟨b, tv, h2.okd E1 (Ext.refl _) (.bl _)⟩
/-- behind tst: the value may also be handed on -/
theorem snd_and {a b : E} {ea eb : Expr} {es : List Expr} {p : Pos} (ha : Snd X cm tb a ea) (hb : Snd X cm tb b (.BoolOp .And (eb :: es) p)) : Snd X cm tb (.and a b) (.BoolOp .And (ea :: eb :: es) p) := by
  intro c r σ H Q hK hcm tk E h
  unfold ev at h
  refine SE.of (pe_andT (se ea) (se _)) ?_
  refine ha c r σ H _ hK hcm tk E (h.bind fun x r1 _ v H1 E1 k1 u1 q1 h1 => ?_)
  obtain ⟨k0, tv, h2⟩ := tst_ok E1 q1 h1
  rw [hK] at tv
  refine ⟨k0, tv, ?_⟩
  cases k0 with
  | true => exact hb c r1 σ H1 _ hK hcm tk E1 h2
  | false => exact h2.ok E1 (Ext.refl _) q1
theorem snd_or {a b : E} {ea eb : Expr} {es : List Expr} {p : Pos} (ha : Snd X cm tb a ea) (hb : Snd X cm tb b (.BoolOp .Or (eb :: es) p)) : Snd X cm tb (.or a b) (.BoolOp .Or (ea :: eb :: es) p) := by
  intro c r σ H Q hK hcm tk E h
  unfold ev at h
  refine SE.of (pe_orT (se ea) (se _)) ?_
  refine ha c r σ H _ hK hcm tk E (h.bind fun x r1 _ v H1 E1 k1 u1 q1 h1 => ?_)
  obtain ⟨k0, tv, h2⟩ := tst_ok E1 q1 h1
  rw [hK] at tv
  refine ⟨k0, tv, ?_⟩
  cases k0 with
  | true => exact h2.ok E1 (Ext.refl _) q1
  | false => exact hb c r1 σ H1 _ hK hcm tk E1 h2
theorem snd_one {a : E} {ea : Expr} {o : BoolOp} {p : Pos} (ha : Snd X cm tb a ea) : Snd X cm tb a (.BoolOp o [ea] p) := fun c r σ H Q hK hcm tk E h => SE.of (pe_one (se ea)) (ha c r σ H Q hK hcm tk E h)
theorem sndW_and1 {a : E} {ea : Expr} {p : Pos} (ha : SndT X cm tb a ea) : SndW X cm tb a (.BoolOp .And [ea] p) := fun c r σ H Q hK hcm tk E h => SWt.of (pw_and1 (stt ea)) (ha c r σ H Q hK hcm tk E h)
theorem sndW_or1 {a : E} {ea : Expr} {p : Pos} (ha : SndT X cm tb a ea) : SndW X cm tb a (.BoolOp .Or [ea] p) := fun c r σ H Q hK hcm tk E h => SWt.of (pw_or1 (stt ea)) (ha c r σ H Q hK hcm tk E h)
theorem tst_idem {x : Vl} {r r1 : En} {b : Bool} (e : tst x r = .ok b r1) : r1 = r := by
  unfold tst at e
  cases q : res r x with
  | none => rw [q] at e; cases e
  | some d =>
    rw [q] at e
    simp only [lift_some, R.bind_ok] at e
    split at e
    · cases e; rfl
    · cases e
theorem sndW_and {a b : E} {ea eb : Expr} {es : List Expr} {p : Pos} (ha : SndT X cm tb a ea) (hb : SndW X cm tb b (.BoolOp .And (eb :: es) p)) : SndW X cm tb (.and a b) (.BoolOp .And (ea :: eb :: es) p) := by
  intro c r σ H Q hK hcm tk E h
  unfold ev at h
  refine SWt.of (pw_and (stt ea) (swt _)) ?_
  have key : Post c σ rb r H Q (((ev tb a r).bind tst).bind fun k r => if k = true then (ev tb b r).bind tst else .ok false r) := by
    cases q : ev tb a r with
    | st => rw [q] at h; exact h.elim
    | ex e r1 => rw [q] at h; exact h
    | ok x r1 =>
      rw [q] at h
      simp only [R.bind_ok] at h ⊢
      cases q2 : tst x r1 with
      | st => rw [q2] at h; exact h.elim
      | ex e r2 => rw [q2] at h; exact h
      | ok k0 r2 =>
        rw [q2] at h
        have := tst_idem q2
        subst this
        cases k0 with
        | true => exact h
        | false =>
          simp only [R.bind_ok, Bool.false_eq_true, if_false] at h ⊢
          rw [q2] at h
          exact h
  refine ha c r σ H _ hK hcm tk E (key.bind fun k0 r1 _ k' H1 E1 k1 u1 q1 h1 => ?_)
  have e : k' = k0 := q1
  subst e
  cases k' with
  | true => exact hb c r1 σ H1 _ hK hcm tk E1 h1
  | false => exact h1.ok E1 (Ext.refl _) rfl
theorem sndW_or {a b : E} {ea eb : Expr} {es : List Expr} {p : Pos} (ha : SndT X cm tb a ea) (hb : SndW X cm tb b (.BoolOp .Or (eb :: es) p)) : SndW X cm tb (.or a b) (.BoolOp .Or (ea :: eb :: es) p) := by
  intro c r σ H Q hK hcm tk E h
  unfold ev at h
  refine SWt.of (pw_or (stt ea) (swt _)) ?_
  have key : Post c σ rb r H Q (((ev tb a r).bind tst).bind fun k r => if k = true then .ok true r else (ev tb b r).bind tst) := by
    cases q : ev tb a r with
    | st => rw [q] at h; exact h.elim
    | ex e r1 => rw [q] at h; exact h
    | ok x r1 =>
      rw [q] at h
      simp only [R.bind_ok] at h ⊢
      cases q2 : tst x r1 with
      | st => rw [q2] at h; exact h.elim
      | ex e r2 => rw [q2] at h; exact h
      | ok k0 r2 =>
        rw [q2] at h
        have := tst_idem q2
        subst this
        cases k0 with
        | false => exact h
        | true =>
          simp only [R.bind_ok, if_true] at h ⊢
          rw [q2] at h
          exact h
  refine ha c r σ H _ hK hcm tk E (key.bind fun k0 r1 _ k' H1 E1 k1 u1 q1 h1 => ?_)
  have e : k' = k0 := q1
  subst e
  cases k' with
  | false => exact hb c r1 σ H1 _ hK hcm tk E1 h1
  | true => exact h1.ok E1 (Ext.refl _) rfl
theorem snd_ite {d a b : E} {ed ea eb : Expr} {p : Pos} (hd : SndT X cm tb d ed) (ha : Snd X cm tb a ea) (hb : Snd X cm tb b eb) : Snd X cm tb (.ite d a b) (.IfExp ed ea eb p) := by
  intro c r σ H Q hK hcm tk E h
  unfold ev at h
  refine SE.of (pe_ifExp (stt ed) (se ea) (se eb)) ?_
  rw [← R.bind_assoc] at h
  refine hd c r σ H _ hK hcm tk E (h.bind fun k0 r1 _ k' H1 E1 k1 u1 q1 h1 => ?_)
  have e : k' = k0 := q1
  subst e
  cases k' with
  | true => exact ha c r1 σ H1 _ hK hcm tk E1 h1
  | false => exact hb c r1 σ H1 _ hK hcm tk E1 h1

/-! ### arguments -/
def rls (c : Ct) : List V → Hp → En → List PyData → Prop := fun vs H r ds => RpL c.K H (Av' c r) vs ds
def SndA (X : Cx) (cm : Nat → Value) (tb : List Fn) (as : Es) (es : List Expr) : Prop :=
  ∀ (c : Ct) (r : En) (σ : L2.St) (H : Hp) (Q : List V → Hp → Prop), c.K = X.K → c.cm = cm → Takes X c.W → Er c H σ r → Post c σ (rls c) r H Q (evs tb as r) → SA X es σ H Q
def notStar : Expr → Bool
  | .Starred _ _ => false
  | _ => true
theorem nostar {e : Expr} {es : List Expr} {env : Env} (h : notStar e = true) : starEach (e :: es) env = (false, eval e env) :: starEach es env := by
  cases e <;> first | rfl | cases h
theorem cap_ok {γ : Type} {c : Ct} {σ : L2.St} {H : Hp} {r : En} {x : Vl} {v : V} {δ : Type} {rel2 : δ → Hp → En → γ → Prop} {Q : δ → Hp → Prop} {k : PyData → En → R γ} (E : Er c H σ r) (q : rv c σ v H r x) (h : Post c σ rel2 r H Q ((cap x r).bind k)) :
    ∃ d r', cap x r = .ok d r' ∧ Er c H σ r' ∧ Up r r' ∧ Rp c.K H (Av' c r') v d ∧ Post c σ rel2 r' H Q (k d r') := by
  cases e : cap x r with
  | st => rw [e] at h; exact h.elim
  | ex z r1 =>
    cases x with
    | d d => cases e
    | f d => cases e
    | o i =>
      unfold cap at e
      simp only at e
      split at e <;> cases e
  | ok d r' =>
    rw [e] at h
    obtain ⟨E', u, rp⟩ := E.hold q.base e
    exact ⟨d, r', rfl, E', u, rp, h.rebase (m := k d r') (Kp.refl _ _) u⟩
theorem snda_nil : SndA X cm tb .nil [] := by
  intro c r σ H Q hK hcm tk E h
  unfold evs at h
  exact SA.of pa_nil (h.ok E (Ext.refl _) .nil)
theorem snda_cons {a : E} {as : Es} {e : Expr} {es : List Expr} (ha : Snd X cm tb a e) (hs : SndA X cm tb as es) (hn : notStar e = true) : SndA X cm tb (.cons a as) (e :: es) := by
  intro c r σ H Q hK hcm tk E h
  unfold evs at h
  refine SA.of (pa_cons (se e) (sa es) (nostar hn)) ?_
  refine ha c r σ H _ hK hcm tk E (h.bind fun x r1 _ v H1 E1 k1 u1 q1 h1 => ?_)
  obtain ⟨d, r2, _, E2, u2, rp, h2⟩ := cap_ok E1 q1 h1
  refine hs c r2 σ H1 _ hK hcm tk E2 (h2.bind fun ds r3 _ vs H3 E3 k3 u3 q3 h3 => ?_)
  exact h3.ok E3 (Ext.refl _) (.cons (rp.mono k3 fun a => u3.av) q3)
theorem snda_star {a : E} {as : Es} {e : Expr} {es : List Expr} {p : Pos} (ha : Snd X cm tb a e) (hs : SndA X cm tb as es) : SndA X cm tb (.star a as) (.Starred e p :: es) := by
  intro c r σ H Q hK hcm tk E h
  unfold evs at h
  refine SA.of (StX.pa_star (se e) (sa es)) ?_
  refine ha c r σ H _ hK hcm tk E (h.bind fun x r1 _ v H1 E1 k1 u1 q1 h1 => ?_)
  obtain ⟨d, ed, h2⟩ := h1.lift
  have vw := RV.vw E1 q1.base ed
  have rest : ∀ {xs : List PyData} {vs : List V}, RpL c.K H1 (Av' c r1) vs xs → Post c σ (rls c) r1 H1 Q ((evs tb as r1).bind fun ds r => .ok (xs ++ ds) r) → SA X es σ H1 (fun ys H2 => Q (vs ++ ys) H2) := fun {xs vs} g h3 =>
    hs c r1 σ H1 _ hK hcm tk E1 (h3.bind fun ds r3 _ ys H3 E3 k3 u3 q3 h4 => h4.ok E3 (Ext.refl _) (RpL.append (g.mono k3 fun a => u3.av) q3))
  cases d <;> first | exact h2.elim | skip
  · cases vw with
    | lst l g => exact ⟨_, _, rfl, .inr (hK ▸ l.sq), rest g h2⟩
  · cases vw with
    | tup l g => exact ⟨_, _, rfl, .inl (hK ▸ l.sq), rest g h2⟩
theorem snd_tup {as : Es} {es : List Expr} {j : Nat} {p : Pos} (hs : SndA X cm tb as es) : Snd X cm tb (.tup as) (.Tuple es j p) := by
  intro c r σ H Q hK hcm tk E h
  unfold ev at h
  refine SE.of (pe_tup (sa es)) ?_
  refine hs c r σ H _ hK hcm tk E (h.bind fun ds r1 _ vs H1 E1 k1 u1 q1 h1 => ?_)
  split at h1
  · rename_i hl
    have q1 : RpL c.K H1 (Av' c r1) vs ds := q1
    have g := h1.gv E1
    rw [hK] at g q1
    exact ⟨by rw [q1.length]; exact hl, fun p hp => gv_tup (AvF c r1 E1) g hp q1⟩
  · exact h1.elim
theorem snd_lst {as : Es} {es : List Expr} {p : Pos} (hs : SndA X cm tb as es) : Snd X cm tb (.lst as) (.List es p) := by
  intro c r σ H Q hK hcm tk E h
  unfold ev at h
  refine SE.of (pe_lst (sa es)) ?_
  refine hs c r σ H _ hK hcm tk E (h.bind fun ds r1 _ vs H1 E1 k1 u1 q1 h1 => ?_)
  split at h1
  · rename_i hl
    have q1 : RpL c.K H1 (Av' c r1) vs ds := q1
    have g := h1.gv E1
    rw [hK] at g q1
    exact ⟨by rw [q1.length]; exact hl, fun p hp => gv_new (o := .lst []) (AvF c r1 E1) g hp q1⟩
  · exact h1.elim
theorem snd_dic0 {p : Pos} : Snd X cm tb .dic0 (.Dict [] [] p) := by
  intro c r σ H Q hK hcm tk E h
  unfold ev at h
  refine SE.of pe_dnewK fun a ha => ?_
  exact h.gv E _ _ (Ext.new ha) ⟨a, rfl, .dic upd_same .nil, E.free ha, ha⟩
theorem snd_ix {a b : E} {ea eb : Expr} {p : Pos} (ha : Snd X cm tb a ea) (hb : Snd X cm tb b eb) (hs : ∀ o i, subscripted eb false o i = operate [o, i] (getItem o i)) : Snd X cm tb (.ix a b) (.Subscript ea eb p) := by
  intro c r σ H Q hK hcm tk E h
  unfold ev at h
  refine SE.of (pe_ix ix_seq (se ea) (se eb) hs) ?_
  refine ha c r σ H _ hK hcm tk E (h.bind fun x r1 _ v H1 E1 k1 u1 q1 h1 => ?_)
  refine hb c r1 σ H1 _ hK hcm tk E1 (h1.bind fun y r2 _ w H2 E2 k2 u2 q2 h2 => ?_)
  obtain ⟨dx, ex, h3⟩ := h2.lift
  obtain ⟨dy, ey, h4⟩ := h3.lift
  obtain ⟨dz, ez, h5⟩ := h4.lift
  have vx := RV.vw E2 (q1.mono k2 u2) ex
  have vy := RV.vw E2 q2.base ey
  rw [hK] at vx vy
  exact ix_ok vx vy ez fun z rp => h5.okd E2 (Ext.refl _) (by rw [← hK] at rp; exact rp)
end
end Di
namespace Di
open PySem PySem.Spec PyProof.Rows L2
theorem vals_get : ∀ {xs : List V} {vs : List Value}, xs.length = vs.length → (∀ (j : Nat) x v, xs[j]? = some x → vs[j]? = some v → RelV x v) → Vals xs vs
  | [], [], _, _ => .nil
  | [], _ :: _, h, _ => by cases h
  | _ :: _, [], h, _ => by cases h
  | x :: xs, v :: vs, h, g => .cons (g 0 x v rfl rfl) (vals_get (by simpa using h) fun j y u a b => g (j + 1) y u a b)
/-- tuple(text) -/
theorem call_tuple_sgn {X : Cx} (hc : X.calm = true) : CallR X (.type "tuple") (fun xs H Q => ∃ z : Str, xs = [.str z] ∧ z.length ≤ sizeLine ∧ ∀ l, H l = none → Q (.ref l) (upd H l (.tup (z.cps.toList.map fun c => V.str ⟨#[c]⟩)))) := by
  intro pins s σ H xs us Q I r h
  obtain ⟨z, rfl, hz, q⟩ := h
  obtain ⟨u, rfl, t, rfl⟩ := vals1 r
  refine call_tuple_str (I.ok.hd hc) z t (fun h' tk acc kp hacc => ?_) hz
  have I1 : Inv X pins σ H { s with heap := h', toks := tk } := I.kept (t' := tk) kp
  have rel : Vals (z.cps.toList.map fun c => V.str ⟨#[c]⟩) acc.toList := by
    refine vals_get (by simp [hacc.1]) fun j x v hx hv => ?_
    obtain ⟨c, u, e1, rfl⟩ := hacc.2 j v (by simpa using hv)
    rw [List.getElem?_map, Array.getElem?_toList, e1] at hx
    cases hx
    exact ⟨u, rfl⟩
  have I2 : Inv X pins σ (upd H h'.objs.size (.tup (z.cps.toList.map fun c => V.str ⟨#[c]⟩))) { s with heap := h'.push { cls := .type "tuple", data := .seq acc }, toks := tk } :=
    I1.laid (t' := tk) (fun b o e => Heap.get?_push_of_some _ e) (Nat.le_refl _) (show ObjOk X.prog X.w _ _ _ (.tup _) from ⟨by rw [List.length_map, Array.length_toList]; exact hz, acc.toList, rel, by simpa using IsTup.new h' acc⟩)
  exact ⟨.ref h'.objs.size, _, I2, rfl, q _ (I1.hok.fresh (Nat.le_refl _))⟩
end Di
namespace Di
open PySem PySem.Spec PyProof.Rows L2
section
variable {X : Cx} {pins : List (Addr × Obj)} {σ : L2.St} {H : Hp} {s : Shared} {Pa : Addr → Prop}
theorem paired_ent {P : Program} {w : World} : ∀ {es : List DictEntry} {vs : List (Key × Value)}, Pairs (mixKind P w) es vs → Paired (fun (e : DictEntry) (p : Key × Value) => keyIs p.1 e.key = true ∧ e.val = p.2) es vs
  | _, _, .nil => .nil
  | _, _, .cons h e g => .cons ⟨h, e⟩ (paired_ent g)
/-- what reads of a value: a dict's address is not the modules' -/
def RdS (h : Heap) (u : Value) (d : PyData) : Prop := ∃ as, Reads h u d as ∧ (nolst d = true → sysModules ∉ as)
def RdSs (h : Heap) (us : List Value) (ds : List PyData) : Prop := ∃ as, ReadsAll h us ds as ∧ (nolstA ds = true → sysModules ∉ as)
theorem reads_key {h : Heap} {k : Key} {v : Value} (e : keyIs k v = true) : Reads h v (kD k) [] := by
  rcases keyIs_shape e with ⟨i, t, rfl, rfl⟩ | ⟨x, t, rfl, rfl⟩
  · exact .int i t
  · exact .str x t
mutual
theorem Rp.rds (I : Inv X pins σ H s) : ∀ {d : PyData} {v : V} {u : Value}, Rp X.K H Pa v d → RelV v u → RdS s.heap u d
  | .none, _, _, .non, r => by cases r; exact ⟨_, .none, fun _ => by simp⟩
  | .bool _, _, _, .bl b, r => by cases r; exact ⟨_, .bool b, fun _ => by simp⟩
  | .int _, _, _, .int i, r => by obtain ⟨t, rfl⟩ := r; exact ⟨_, .int i t, fun _ => by simp⟩
  | .str _, _, _, .str x, r => by obtain ⟨t, rfl⟩ := r; exact ⟨_, .str x t, fun _ => by simp⟩
  | .list ds, _, _, .lst h g, r => by
    cases r
    obtain ⟨its, n, rv, _, e⟩ := h.lv.obj I
    obtain ⟨as, q, _⟩ := RpL.rds I g rv
    exact ⟨_, .list e rfl rfl q, fun z => by simp [nolst] at z⟩
  | .tuple ds, _, _, .tup h g, r => by
    cases r
    obtain ⟨its, rv, ⟨o, ho, hc, n, hd⟩, _⟩ := I.tuple h.sq
    obtain ⟨as, q, z⟩ := RpL.rds I g rv
    exact ⟨_, .tuple ho hc hd q, fun y => z (by simpa only [nolst] using y)⟩
  | .dict ds, _, _, .dic p h g, r => by
    cases r
    obtain ⟨z, y, vs, kv, o, es, ep, ho, hx, hd, _, pr, _⟩ := h.ok I.hok
    obtain ⟨as, bs, q1, q2, z1, z2⟩ := RpD.rds I g kv (paired_ent pr)
    refine ⟨_, .dict ho hx.1 hd q1 q2, fun w hm => ?_⟩
    rcases List.mem_append.mp hm with hm | hm
    · rcases List.mem_cons.mp hm with hm | hm
      · rw [← hm] at y; simp at y
      · exact z1 hm
    · exact z2 (by simpa only [nolst] using w) hm
theorem RpL.rds (I : Inv X pins σ H s) : ∀ {ds : List PyData} {vs : List V} {us : List Value}, RpL X.K H Pa vs ds → Vals vs us → RdSs s.heap us ds
  | [], _, _, .nil, r => by cases r; exact ⟨_, .nil, fun _ => by simp⟩
  | d :: ds, _, _, .cons h g, r => by
    cases r with
    | cons r1 r2 =>
      obtain ⟨as, q1, z1⟩ := Rp.rds I h r1
      obtain ⟨bs, q2, z2⟩ := RpL.rds I g r2
      refine ⟨_, .cons q1 q2, fun y => ?_⟩
      simp only [nolstA, Bool.and_eq_true] at y
      intro hm
      rcases List.mem_append.mp hm with hm | hm
      · exact z1 y.1 hm
      · exact z2 y.2 hm
theorem RpD.rds (I : Inv X pins σ H s) : ∀ {ds : List (PyData × PyData)} {vs : List (Key × V)} {us : List (Key × Value)} {es : List DictEntry}, RpD X.K H Pa vs ds → KV vs us →
    Paired (fun (e : DictEntry) (p : Key × Value) => keyIs p.1 e.key = true ∧ e.val = p.2) es us →
    ∃ as bs, ReadsAll s.heap (es.map (·.key)) (ds.map (·.1)) as ∧ ReadsAll s.heap (es.map (·.val)) (ds.map (·.2)) bs ∧ sysModules ∉ as ∧ (nolstD ds = true → sysModules ∉ bs)
  | [], _, _, _, .nil, r, p => by cases r; cases p; exact ⟨_, _, .nil, .nil, by simp, fun _ => by simp⟩
  | (_, d) :: ds, _, _, _, .cons h g, r, p => by
    cases r with
    | cons r1 r2 =>
      cases p with
      | cons p1 p2 =>
        obtain ⟨e1, rv⟩ := r1
        obtain ⟨e2, e3⟩ := p1
        obtain ⟨as, q1, z1⟩ := Rp.rds I h rv
        obtain ⟨bs, cs, q2, q3, z2, z3⟩ := RpD.rds I g r2 p2
        rw [← e3] at q1
        rw [← e1] at e2
        refine ⟨_, _, .cons (reads_key e2) q2, .cons q1 q3, by simpa using z2, fun y hm => ?_⟩
        simp only [nolstD, Bool.and_eq_true] at y
        rcases List.mem_append.mp hm with hm | hm
        · exact z1 y.1 hm
        · exact z3 y.2 hm
end
theorem Vw.rp {v : V} {d : PyData} (h : Vw X.K H Pa v d) : Rp X.K H (fun _ => True) v d := by
  cases h with
  | non => exact .non
  | bl b => exact .bl b
  | int i => exact .int i
  | str x => exact .str x
  | lst l g =>
    refine .lst ?_ (g.mono (Kp.refl _ _) fun _ _ => trivial)
    rcases l with l | l
    · exact .inl ⟨trivial, l⟩
    · exact .inr l
  | tup l g => exact .tup (l.mono (Kp.refl _ _) fun _ _ => trivial) (g.mono (Kp.refl _ _) fun _ _ => trivial)
  | dic l g => exact .dic trivial l (g.mono (Kp.refl _ _) fun _ _ => trivial)
end
section
variable {X : Cx}
theorem call_reprD (hu : X.A.units + 64 < cLine) (hg : X.A.guards = some []) : CallR X (.builtin "repr") (fun xs H Q => ∃ x d Pa, xs = [x] ∧ Vw X.K H Pa x d ∧ rpOk d = true ∧ Q (.str d.shown) H) := by
  intro pins s σ H xs us Q I r ⟨x, d, Pa, e, vw, ok, q⟩
  subst e
  obtain ⟨u, eu, rx⟩ := vals1 r
  subst eu
  simp only [rpOk, Bool.and_eq_true, decide_eq_true_eq, Bool.or_eq_true] at ok
  obtain ⟨o1, o2, o3, o4⟩ := ok
  have go : ∀ u, RelV x u → RdS s.heap u d := fun u rx => vw.rp.rds I rx
  cases vw with
  | non => cases rx; exact P.repr_of_none ⟨.str _, H, I.tok _, ⟨_, rfl⟩, q⟩
  | bl b => cases rx; exact P.repr_of_bool ⟨.str _, H, I.tok _, ⟨_, rfl⟩, q⟩
  | int i => obtain ⟨t, rfl⟩ := rx; exact P.repr_of_int (of_decide_eq_true o1) ⟨.str _, H, I.tok _, ⟨_, rfl⟩, q⟩
  | str z => obtain ⟨t, rfl⟩ := rx; exact P.repr_of_str (hsz := o3) ⟨.str _, H, I.tok _, ⟨_, rfl⟩, q⟩
  | _ =>
    obtain ⟨as, rd, hs⟩ := go u rx
    cases rx
    refine repr_of_reads' rd o1 (fun hd => hs ?_) hg (by omega) (fun _ _ e => e) (fun h' u tk hk => ⟨.str _, H, I.kept (h' := h') (t' := tk) hk, ⟨_, rfl⟩, q⟩) o3
    rcases o4 with o4 | o4
    · rw [hd] at o4; cases o4
    · exact o4

/-! ### built-in functions -/
theorem nts_rel {K : PySem.W.Frag} {H : Hp} {Pa : Addr → Prop} : ∀ {ds : List PyData} {vs : List V} {is : List Int}, RpL K H Pa vs ds → nts ds = some is → vs = is.map V.int := by
  intro ds
  induction ds with
  | nil => intro vs is h e; cases h; cases e; rfl
  | cons d ds ih =>
    intro vs is h e
    cases h with
    | cons h g =>
      cases d <;> simp only [nts] at e <;> first | (cases e; done) | skip
      cases q : nts ds with
      | none => rw [q] at e; cases e
      | some js =>
        rw [q] at e
        cases e
        cases h
        rw [ih g q]
        rfl
theorem bls_rel {K : PySem.W.Frag} {H : Hp} {Pa : Addr → Prop} : ∀ {ds : List PyData} {vs : List V} {is : List Bool}, RpL K H Pa vs ds → bls ds = some is → vs = is.map V.bl := by
  intro ds
  induction ds with
  | nil => intro vs is h e; cases h; cases e; rfl
  | cons d ds ih =>
    intro vs is h e
    cases h with
    | cons h g =>
      cases d <;> simp only [bls] at e <;> first | (cases e; done) | skip
      cases q : bls ds with
      | none => rw [q] at e; cases e
      | some js =>
        rw [q] at e
        cases e
        cases h
        rw [ih g q]
        rfl
theorem mxL_spec : ∀ (l : List Int) (m z : Int), (z = m ∨ z ∈ l) → (m ≤ z ∧ ∀ y ∈ l, y ≤ z) → mxL m l = z
  | [], m, z, h, _ => by
    rcases h with h | h
    · exact h.symm
    · cases h
  | x :: r, m, z, h, ⟨g1, g2⟩ => by
    unfold mxL
    have gx := g2 x (by simp)
    split
    · rename_i hx
      refine mxL_spec r x z ?_ ⟨gx, fun y hy => g2 y (by simp [hy])⟩
      rcases h with h | h
      · omega
      · rcases List.mem_cons.mp h with h | h
        · exact .inl h
        · exact .inr h
    · rename_i hx
      refine mxL_spec r m z ?_ ⟨g1, fun y hy => g2 y (by simp [hy])⟩
      rcases h with h | h
      · exact .inl h
      · rcases List.mem_cons.mp h with h | h
        · exact .inl (by omega)
        · exact .inr h
inductive VwL (K : PySem.W.Frag) (H : Hp) (Pa : Addr → Prop) : List V → List PyData → Prop
  | nil : VwL K H Pa [] []
  | cons {v : V} {vs : List V} {d : PyData} {ds : List PyData} : Vw K H Pa v d → VwL K H Pa vs ds → VwL K H Pa (v :: vs) (d :: ds)
theorem chars_rel0 {K : PySem.W.Frag} {H : Hp} {P : Addr → Prop} : ∀ l : List Nat, RpL K H P (l.map fun c => V.str ⟨#[c]⟩) (l.map fun c => PyData.str ⟨#[c]⟩)
  | [] => .nil
  | _ :: l => .cons (.str _) (chars_rel0 l)
def bltV : Bl → Value
  | .len => .builtin "len" | .list => .type "list" | .tuple => .type "tuple" | .abs => .builtin "abs" | .int => .type "int" | .max => .builtin "max" | .min => .builtin "min" | .repr => .builtin "repr" | .all => .builtin "all" | .str => .type "str"
def SC (X : Cx) (f : Value) : List V → Hp → VK → Prop := fun xs H Q => ∀ pins s σ us, Inv X pins σ H s → Vals xs us → wpAny (model X.prog X.w) X.A (call f us) (EP X pins σ Q) X.xe s
theorem sc (f : Value) : CallR X f (SC X f) := fun pins s σ H xs us Q I r h => h pins s σ us I r
theorem SC.of {f : Value} {t : List V → Hp → VK → Prop} (h : CallR X f t) {xs : List V} {H : Hp} {Q : VK} (q : t xs H Q) : SC X f xs H Q := fun pins s σ us I r => h pins s σ H xs us Q I r q
theorem blt_ok {f : Bl} {ds : List PyData} {vs : List V} {H : Hp} {Q : VK} {Pa : Addr → Prop} {z : Vl} (hu : X.A.units + 64 < cLine) (hg : X.A.guards = some []) (hc : X.calm = true) (hf : ∀ a, H a = none → Pa a) (vw : VwL X.K H Pa vs ds) (e : bltD f ds = some z) (g : Gv X.K Pa H Q z) :
    SC X (bltV f) vs H Q := by
  cases vw with
  | nil => cases f <;> cases e
  | cons v1 r1 =>
    cases r1 with
    | cons v2 r2 =>
      cases r2 with
      | cons _ _ => cases f <;> cases v1 <;> cases v2 <;> cases e
      | nil =>
        cases f <;> cases v1 <;> cases v2 <;> simp only [bltD] at e <;> first | (cases e; done) | skip
        · cases e; exact SC.of (call_max2 hc) ⟨_, _, rfl, gv_same g (.int _)⟩
        · cases e; exact SC.of (call_min2 hc) ⟨_, _, rfl, gv_same g (.int _)⟩
    | nil =>
      cases f with
      | len =>
        cases v1 <;> simp only [bltD] at e <;> first | (cases e; done) | skip
        · split at e
          · cases e; exact SC.of call_len_str ⟨_, rfl, by assumption, gv_same g (.int _)⟩
          · cases e
        · cases e
          rename_i l r
          refine SC.of call_len_seq ⟨_, _, rfl, .inl l.sq, ?_⟩
          rw [r.length]
          exact gv_same g (.int _)
        · cases e
          rename_i l r
          refine SC.of call_len_seq ⟨_, _, rfl, .inr l.sq, ?_⟩
          rw [r.length]
          exact gv_same g (.int _)
        · cases e
          rename_i l r
          refine SC.of call_lenK ⟨_, _, rfl, l, ?_⟩
          rw [r.length]
          exact gv_same g (.int _)
      | list =>
        cases v1 <;> simp only [bltD] at e <;> first | (cases e; done) | skip
        · cases e
          rename_i l r
          exact SC.of call_list_of ⟨_, _, rfl, .inl l.sq, fun p hp => gv_new (o := .lst []) hf g hp r⟩
        · cases e
          rename_i l r
          exact SC.of call_list_of ⟨_, _, rfl, .inr l.sq, fun p hp => gv_new (o := .lst []) hf g hp r⟩
      | tuple =>
        cases v1 <;> simp only [bltD] at e <;> first | (cases e; done) | skip
        · split at e
          · cases e
            rename_i hz
            exact SC.of (call_tuple_sgn hc) ⟨_, rfl, hz, fun p hp => gv_tup hf g hp (chars_rel0 _)⟩
          · cases e
        · cases e
          rename_i l r
          exact SC.of call_tuple_of ⟨_, _, rfl, .inl ⟨l.sq, fun p hp => gv_tup hf g hp r⟩⟩
        · cases e
          rename_i l r
          exact SC.of call_tuple_of ⟨_, _, rfl, .inr ⟨l.sq, gv_same g (.tup l r)⟩⟩
      | abs =>
        cases v1 <;> simp only [bltD] at e <;> first | (cases e; done) | skip
        cases e; exact SC.of call_abs ⟨_, rfl, gv_same g (.int _)⟩
      | int =>
        cases v1 <;> simp only [bltD] at e <;> first | (cases e; done) | skip
        · cases e; exact SC.of call_int1 (.inr ⟨_, rfl, gv_same g (.int _)⟩)
        · cases e; exact SC.of call_int1 (.inl ⟨_, rfl, gv_same g (.int _)⟩)
      | max =>
        cases v1 <;> simp only [bltD] at e <;> first | (cases e; done) | skip
        rename_i a xs ds l r
        cases q : nts ds with
        | none => rw [q] at e; cases e
        | some is =>
          rw [q] at e
          cases is with
          | nil => cases e
          | cons i is =>
            cases e
            have ex := nts_rel r q
            subst ex
            refine SC.of (cr_max hc) ⟨a, i :: is, rfl, l.sq, by simp, fun m hm hy => ?_⟩
            have e2 : mxL i is = m := mxL_spec is i m (List.mem_cons.mp hm) ⟨hy i (by simp), fun y h => hy y (by simp [h])⟩
            rw [e2] at g
            exact gv_same g (.int _)
      | min => cases v1 <;> cases e
      | repr =>
        simp only [bltD] at e
        split at e
        · cases e; exact SC.of (call_reprD hu hg) ⟨_, _, _, rfl, v1, by assumption, gv_same g (.str _)⟩
        · cases e
      | all =>
        cases v1 <;> simp only [bltD] at e <;> first | (cases e; done) | skip
        rename_i a xs ds l r
        cases q : bls ds with
        | none => rw [q] at e; cases e
        | some bs =>
          rw [q] at e
          cases e
          have ex := bls_rel r q
          subst ex
          exact SC.of (cr_all hc) ⟨a, bs, rfl, l.sq, gv_same g (.bl _)⟩
      | str =>
        cases v1 <;> simp only [bltD] at e <;> first | (cases e; done) | skip
        · split at e
          · cases e; exact SC.of call_str_int ⟨_, rfl, by assumption, gv_same g (.str _)⟩
          · cases e
end
end Di
namespace Di
open PySem PySem.Spec PyProof.Rows L2
section
variable {X : Cx} {cm : Nat → Value} {sg : List Sig} {tb : List Fn} {gs : List (Str × PyData)} {k : Nat}
/-! ### slices -/
def SO (X : Cx) (e : Option Expr) : TO := fun σ H Q => ∀ pins s, Inv X pins σ H s → wpAny (model X.prog X.w) X.A (evalPart e X.env) (fun u s' => ∃ o H', Inv X pins σ H' s' ∧ IsPart u o ∧ Q o H') X.xe s
theorem so (e : Option Expr) : PO X e (SO X e) := ⟨fun pins s σ H Q I h => h pins s I⟩
theorem SO.of {e : Option Expr} {t : TO} (h : PO X e t) {σ : L2.St} {H : Hp} {Q : Option Int → Hp → Prop} (q : t σ H Q) : SO X e σ H Q := fun pins s I => h.run pins s σ H Q I q
def ro : Option Int → Hp → En → Option Int → Prop := fun o _ _ x => o = x
def SndO (X : Cx) (cm : Nat → Value) (tb : List Fn) (a : Eo) (e : Option Expr) : Prop :=
  ∀ (c : Ct) (r : En) (σ : L2.St) (H : Hp) (Q : Option Int → Hp → Prop), c.K = X.K → c.cm = cm → Takes X c.W → Er c H σ r → Post c σ ro r H Q (evo tb a r) → SO X e σ H Q
theorem sndO_no : SndO X cm tb .no none := by
  intro c r σ H Q hK hcm tk E h
  unfold evo at h
  exact SO.of po_none (h.ok E (Ext.refl _) rfl)
theorem sndO_e {a : E} {e : Expr} (ha : Snd X cm tb a e) : SndO X cm tb (.e a) (some e) := by
  intro c r σ H Q hK hcm tk E h
  unfold evo at h
  refine SO.of (po_some (se e)) ?_
  refine ha c r σ H _ hK hcm tk E (h.bind fun x r1 _ v H1 E1 k1 u1 q1 h1 => ?_)
  obtain ⟨d, ed, h2⟩ := h1.lift
  obtain ⟨i, ei, h3⟩ := h2.lift
  have vx := RV.vw E1 q1.base ed
  cases vx <;> simp only [opI] at ei <;> first | (cases ei; done) | skip
  cases ei
  exact ⟨i, rfl, h3.ok E1 (Ext.refl _) rfl⟩
theorem snd_sl {a : E} {lo hi : Eo} {ea : Expr} {elo ehi : Option Expr} {p p2 : Pos} (ha : Snd X cm tb a ea) (hl : SndO X cm tb lo elo) (hh : SndO X cm tb hi ehi) : Snd X cm tb (.sl a lo hi) (.Subscript ea (.Slice elo ehi none p2) p) := by
  intro c r σ H Q hK hcm tk E h
  unfold ev at h
  refine SE.of (pe_slice sl_all (se ea) (so elo) (so ehi)) ?_
  refine ha c r σ H _ hK hcm tk E (h.bind fun x r1 _ v H1 E1 k1 u1 q1 h1 => ?_)
  refine hl c r1 σ H1 _ hK hcm tk E1 (h1.bind fun l r2 _ l' H2 E2 k2 u2 q2 h2 => ?_)
  refine hh c r2 σ H2 _ hK hcm tk E2 (h2.bind fun m r3 _ m' H3 E3 k3 u3 q3 h3 => ?_)
  have e1 : l' = l := q2
  have e2 : m' = m := q3
  subst e1 e2
  obtain ⟨dx, ex, h4⟩ := h3.lift
  obtain ⟨z, ez, h5⟩ := h4.lift
  have vx := RV.vw E3 ((q1.mono k2 u2).mono k3 u3) ex
  have g := h5.gv E3
  rw [hK] at vx g
  exact sl_ok (AvF c r3 E3) vx ez g

theorem rpl_rev {K : PySem.W.Frag} {H : Hp} {Pa : Addr → Prop} : ∀ {xs : List V} {ds : List PyData}, RpL K H Pa xs ds → RpL K H Pa xs.reverse ds.reverse
  | _, _, .nil => .nil
  | _, _, .cons h g => by
    rw [List.reverse_cons, List.reverse_cons]
    exact (rpl_rev g).append (.cons h .nil)
theorem snd_rev {a : E} {ea : Expr} {n : Nat} {p1 p2 p3 pos : Pos} (ha : Snd X cm tb a ea) : Snd X cm tb (.rev a) (.Subscript ea (.Slice none none (some (.UnaryOp .USub (.Constant (.int 1) n p1) p2)) p3) pos) := by
  intro c r σ H Q hK hcm tk E h
  unfold ev at h
  refine SE.of (pe_revA (se ea)) ?_
  refine ha c r σ H _ hK hcm tk E (h.bind fun x r1 _ v H1 E1 k1 u1 q1 h1 => ?_)
  obtain ⟨dx, ex, h4⟩ := h1.lift
  obtain ⟨z, ez, h5⟩ := h4.lift
  have vx := RV.vw E1 q1.base ex
  have g := h5.gv E1
  rw [hK] at vx g
  have hf := AvF c r1 E1
  cases vx <;> simp only [revD] at ez <;> first | (cases ez; done) | skip
  · cases ez
    rename_i l r
    exact ⟨_, _, rfl, .inl ⟨l.sq, fun p hp => gv_new (o := .lst []) hf g hp (rpl_rev r)⟩⟩
  · cases ez
    rename_i l r
    exact ⟨_, _, rfl, .inr ⟨l.sq, fun p hp => gv_tup hf g hp (rpl_rev r)⟩⟩

/-! ### calls of built-ins -/
def rvl (c : Ct) (σ : L2.St) : List V → Hp → En → List Vl → Prop := fun vs H r xs => Paired (fun v x => RV c.K c.H0 c.P c.al σ v H r x) vs xs
def SndV (X : Cx) (cm : Nat → Value) (tb : List Fn) (as : Es) (es : List Expr) : Prop :=
  ∀ (c : Ct) (r : En) (σ : L2.St) (H : Hp) (Q : List V → Hp → Prop), c.K = X.K → c.cm = cm → Takes X c.W → Er c H σ r → Post c σ (rvl c σ) r H Q (evv tb as r) → SA X es σ H Q
theorem sndv_nil : SndV X cm tb .nil [] := by
  intro c r σ H Q hK hcm tk E h
  unfold evv at h
  exact SA.of pa_nil (h.ok E (Ext.refl _) .nil)
theorem sndv_cons {a : E} {as : Es} {e : Expr} {es : List Expr} (ha : Snd X cm tb a e) (hs : SndV X cm tb as es) (hn : notStar e = true) : SndV X cm tb (.cons a as) (e :: es) := by
  intro c r σ H Q hK hcm tk E h
  unfold evv at h
  refine SA.of (pa_cons (se e) (sa es) (nostar hn)) ?_
  refine ha c r σ H _ hK hcm tk E (h.bind fun x r1 _ v H1 E1 k1 u1 q1 h1 => ?_)
  refine hs c r1 σ H1 _ hK hcm tk E1 (h1.bind fun xs r2 _ vs H2 E2 k2 u2 q2 h2 => ?_)
  exact h2.ok E2 (Ext.refl _) (.cons (q1.mono k2 u2) q2)
theorem vwl_of {c : Ct} {σ : L2.St} {H : Hp} {r : En} (E : Er c H σ r) : ∀ {vs : List V} {xs : List Vl} {ds : List PyData}, rvl c σ vs H r xs → xs.mapM (res r) = some ds → VwL c.K H (Av' c r) vs ds
  | _, _, ds, .nil, e => by simp at e; subst e; exact .nil
  | _, _, ds, .cons h g, e => by
    rename_i v x vs xs
    rw [List.mapM_cons] at e
    cases q : res r x with
    | none => rw [q] at e; cases e
    | some d =>
      rw [q] at e
      cases q2 : xs.mapM (res r) with
      | none => rw [q2] at e; cases e
      | some ds' =>
        rw [q2] at e
        cases e
        exact .cons (RV.vw E h q) (vwl_of E g q2)
def bltN : Bl → Str
  | .len => "len" | .list => "list" | .tuple => "tuple" | .abs => "abs" | .int => "int" | .max => "max" | .min => "min" | .repr => "repr" | .all => "all" | .str => "str"
theorem blt_boot (f : Bl) : bootBuiltins (bltN f) = some (bltV f) := by cases f <;> decide +kernel
theorem plain_tail {pos : Pos} {env : Env} : ∀ {es : List Expr}, es.all notStar = true → (backTo pos (starEach es env)).any (·.1) = false
  | [], _ => rfl
  | e :: es, h => by
    rw [List.all_cons, Bool.and_eq_true] at h
    rw [nostar h.1]
    have z := plain_tail (pos := pos) (env := env) h.2
    unfold backTo at z ⊢
    rw [List.map_cons, List.any_cons, z]
    rfl
theorem pe_bltD {f : Bl} {e : Expr} {es : List Expr} {p pos : Pos} {t : TA} {r : List V → Hp → VK → Prop} (hc : CallR X (bltV f) r) (hg : Gl X (bltN f)) (hm : X.mg (bltN f) = none) (ha : PA X (e :: es) t) (hn : (e :: es).all notStar = true) :
    PE X (.Call (.Name (bltN f) p) (e :: es) [] pos) (tCB r t) := by
  rw [List.all_cons, Bool.and_eq_true] at hn
  have hb := blt_boot f
  cases f <;> first
    | exact pe_callB hc hg hm hb ha (by decide) (by decide) (nostar hn.1) (plain_tail hn.2)
    | exact pe_callTy hc hg hm hb ha (by decide) (by decide) (nostar hn.1) (plain_tail hn.2)
theorem snd_blt {f : Bl} {as : Es} {e : Expr} {es : List Expr} {p pos : Pos} (C : Cok X cm sg tb gs k) (hs : SndV X cm tb as (e :: es)) (hg : Gl X (bltN f)) (hn : (e :: es).all notStar = true) : Snd X cm tb (.blt f as) (.Call (.Name (bltN f) p) (e :: es) [] pos) := by
  intro c r σ H Q hK hcm tk E h
  unfold ev at h
  have hm : X.mg (bltN f) = none := C.bl _ (by cases f <;> simp [bltN])
  refine SE.of (pe_bltD (sc _) hg hm (sa _) hn) ?_
  refine hs c r σ H _ hK hcm tk E (h.bind fun xs r1 _ vs H1 E1 k1 u1 q1 h1 => ?_)
  obtain ⟨ds, eds, h2⟩ := h1.lift
  obtain ⟨z, ez, h3⟩ := h2.lift
  have vw := vwl_of E1 q1 eds
  have g := h3.gv E1
  rw [hK] at vw g
  exact blt_ok C.hu C.gd C.hc (AvF c r1 E1) vw ez g

/-! ### ranges -/
theorem rg_rel {K : PySem.W.Frag} {H : Hp} {P : Addr → Prop} (a b : Int) : RpL K H P (rgV a b) (rgD a b) := by
  unfold rgV rgD
  generalize (b - a).toNat = n
  generalize List.range n = l
  induction l with
  | nil => exact .nil
  | cons x l ih => exact .cons (.int _) ih
theorem rgI_some {x y : PyData} {p : Int × Int} (e : rgI x y = some p) : x = .int p.1 ∧ y = .int p.2 ∧ RgOk p.1 p.2 := by
  cases x <;> cases y <;> simp only [rgI] at e <;> first | (cases e; done) | skip
  split at e
  · rename_i h
    cases e
    exact ⟨rfl, rfl, RgOk.of_le h.1 h.2.2.2 h.2.1 h.2.2.1⟩
  · cases e
theorem snd_rng {tup : Bool} {a b : E} {ea eb : Expr} {p p1 p2 p3 : Pos} (C : Cok X cm sg tb gs k) (ha : Snd X cm tb a ea) (hb : Snd X cm tb b eb) (g1 : Gl X (if tup then "tuple" else "list")) (g2 : Gl X "range") (na : notStar ea = true) (nb : notStar eb = true) :
    Snd X cm tb (.rng tup a b) (.Call (.Name (if tup then "tuple" else "list") p) [.Call (.Name "range" p1) [ea, eb] [] p2] [] p3) := by
  intro c r σ H Q hK hcm tk E h
  unfold ev at h
  have m2 : X.mg "range" = none := C.bl _ (by simp)
  have pr : PRg X (.Call (.Name "range" p1) [ea, eb] [] p2) (tRg2 (SE X ea) (SE X eb)) := prg_2 g2 m2 (se ea) (se eb) (nostar na) (nostar nb) (plain_tail (by simp [nb]))
  have core : tRg2 (SE X ea) (SE X eb) σ H (fun i j H1 => RgOk i j ∧ ∀ q, H1 q = none → Q (.ref q) (upd H1 q (if tup = true then .tup (rgV i j) else .lst (rgV i j)))) := by
    refine ha c r σ H _ hK hcm tk E (h.bind fun x r1 _ v H1 E1 k1 u1 q1 h1 => ?_)
    refine hb c r1 σ H1 _ hK hcm tk E1 (h1.bind fun y r2 _ w H2 E2 k2 u2 q2 h2 => ?_)
    obtain ⟨dx, ex, h3⟩ := h2.lift
    obtain ⟨dy, ey, h4⟩ := h3.lift
    obtain ⟨z, ez, h5⟩ := h4.lift
    have vx := RV.vw E2 (q1.mono k2 u2) ex
    have vy := RV.vw E2 q2.base ey
    obtain ⟨rfl, rfl, ok⟩ := rgI_some ez
    cases vx
    cases vy
    refine ⟨_, _, rfl, rfl, ok, fun q hq => ?_⟩
    cases tup with
    | true =>
      have g := Post.gv (x := .d _) h5 E2
      rw [hK] at g
      exact gv_tup (AvF c r2 E2) g hq (rg_rel _ _)
    | false =>
      have g := Post.gv (x := .f _) h5 E2
      rw [hK] at g
      exact gv_new (o := .lst []) (AvF c r2 E2) g hq (rg_rel _ _)
  cases tup with
  | true => exact SE.of (pe_tupRg C.hc g1 (C.bl _ (by simp)) pr (by rfl)) core
  | false => exact SE.of (pe_listRg C.hc g1 (C.bl _ (by simp)) pr (by rfl)) core

/-! ### isinstance of built-in types -/
def tyN : Ty → Str
  | .int => "int" | .bool => "bool" | .str => "str" | .list => "list" | .tuple => "tuple" | .dict => "dict"
def tyS : Ty → String
  | .int => "int" | .bool => "bool" | .str => "str" | .list => "list" | .tuple => "tuple" | .dict => "dict"
theorem ty_boot (t : Ty) : bootBuiltins (tyN t) = some (.type (tyS t)) := by cases t <;> decide +kernel
def dtyS : PyData → String
  | .none => "NoneType" | .bool _ => "bool" | .int _ => "int" | .str _ => "str" | .list _ => "list" | .tuple _ => "tuple" | .dict _ => "dict"
theorem kit_all {K : PySem.W.Frag} (d : PyData) (t : Ty) : PySem.W.kitOne K (.type (dtyS d)) (.type (tyS t)) = some (isiD t d) := by
  cases d <;> cases t <;> simp only [dtyS, tyS, isiD] <;> exact kit_ty (by decide +kernel)
theorem vw_ty {K : PySem.W.Frag} {H : Hp} {P : Addr → Prop} {v : V} {d : PyData} (h : Vw K H P v d) : TyX K H v (.type (dtyS d)) := by
  cases h with
  | non => exact .base .non
  | bl b => exact .base (.bl b)
  | int i => exact .base (.int i)
  | str x => exact .base (.str x)
  | lst l g =>
    rcases l with (l | ⟨o, l⟩) | ⟨its, n, l, _⟩
    · exact .base (.lst l)
    · exact .base (.frz l)
    · exact .kList l rfl
  | tup l g =>
    rcases l with ⟨_, l | ⟨o, l⟩⟩ | ⟨o, its, n, l, hc, _⟩
    · exact .base (.tup l)
    · exact .fTuple l
    · exact .kTuple l hc
  | dic l g =>
    rcases l with l | ⟨o, l⟩
    · exact .base (.dK l)
    · exact .fDict l
theorem snd_isi {t : Ty} {a : E} {ea : Expr} {p p1 p2 : Pos} (C : Cok X cm sg tb gs k) (ha : Snd X cm tb a ea) (g1 : Gl X "isinstance") (g2 : Gl X (tyN t)) (na : notStar ea = true) : Snd X cm tb (.isi t a) (.Call (.Name "isinstance" p) [ea, .Name (tyN t) p1] [] p2) := by
  intro c r σ H Q hK hcm tk E h
  unfold ev at h
  have m1 : X.mg "isinstance" = none := C.bl _ (by simp)
  have m2 : X.mg (tyN t) = none := C.bl _ (by cases t <;> simp [tyN])
  have pn : PE X (.Name (tyN t) p1) (tC (.ty (tyS t))) := pe_bltn g2 m2 (ty_boot t) rfl (by cases t <;> decide) (by cases t <;> decide)
  refine SE.of (pe_callB call_isi g1 m1 (by decide +kernel) (pa_cons (se ea) (pa_cons pn pa_nil (by rfl)) (nostar na)) (by decide) (by decide) (nostar na) (by rfl)) ?_
  refine ha c r σ H _ hK hcm tk E (h.bind fun x r1 _ v H1 E1 k1 u1 q1 h1 => ?_)
  obtain ⟨d, ed, h2⟩ := h1.lift
  have vx := RV.vw E1 q1.base ed
  rw [hK] at vx
  exact ⟨v, _, _, _, _, rfl, .ty _, vw_ty vx, kit_all d t, h2.okd E1 (Ext.refl _) (.bl _)⟩
end
end Di
namespace Di
open PySem PySem.Spec PyProof.Rows L2
section
variable {X : Cx} {cm : Nat → Value} {sg : List Sig} {tb : List Fn} {gs : List (Str × PyData)} {k : Nat}
theorem strs_vw {K : PySem.W.Frag} {H : Hp} {Pa : Addr → Prop} {v : V} {d : PyData} {zs : List Str} (vw : Vw K H Pa v d) (e : strsD d = some zs) : ∃ l, v = .ref l ∧ (SqL K H l (zs.map V.str) ∨ SqT K H l (zs.map V.str)) := by
  have go : ∀ {vs : List V} {zs : List Str}, RpL K H Pa vs (zs.map .str) → vs = zs.map V.str := by
    intro vs zs
    induction zs generalizing vs with
    | nil => intro h; cases h; rfl
    | cons z zs ih => intro h; cases h with | cons h g => cases h; rw [ih g]; rfl
  cases vw <;> simp only [strsD] at e <;> first | (cases e; done) | skip
  · rename_i a xs ds l g
    have e := strsL_eq e
    subst e
    rw [go g] at l
    exact ⟨_, rfl, .inl l.sq⟩
  · rename_i a xs ds l g
    have e := strsL_eq e
    subst e
    rw [go g] at l
    exact ⟨_, rfl, .inr l.sq⟩
theorem pe_set {ea : Expr} {p pos : Pos} (C : Cok X cm sg tb gs k) (g : Gl X "set") (na : notStar ea = true) : PE X (.Call (.Name "set" p) [ea] [] pos) (tCB (SS.rSetW X.K X.w) (tCons (SE X ea) tNil)) :=
  pe_callTy (SS.cr_setW C.hc) g (C.bl _ (by simp)) boot_set (pa_cons (se ea) pa_nil (nostar na)) (by decide) (by decide) (nostar na) (by rfl)
theorem strs_rel {K : PySem.W.Frag} {H : Hp} {Pa : Addr → Prop} : ∀ zs : List Str, RpL K H Pa (zs.map V.str) (zs.map .str)
  | [] => .nil
  | z :: zs => .cons (.str z) (strs_rel zs)
theorem upd_none {H : Hp} {p q : Addr} {o : HO} (h : upd H p o q = none) : H q = none := by
  by_cases e : q = p
  · subst e; rw [upd_same] at h; cases h
  · rwa [upd_ne e] at h
theorem snd_srt {a : E} {ea : Expr} {p1 p2 p3 p4 : Pos} (C : Cok X cm sg tb gs k) (ha : Snd X cm tb a ea) (g1 : Gl X "sorted") (g2 : Gl X "set") (na : notStar ea = true) :
    Snd X cm tb (.srt a) (.Call (.Name "sorted" p1) [.Call (.Name "set" p2) [ea] [] p3] [] p4) := by
  intro c r σ H Q hK hcm tk E h
  unfold ev at h
  refine SE.of (pe_callB (SS.cr_sortedW C.hc) g1 (C.bl _ (by simp)) boot_sorted (pa_cons (pe_set C g2 na) pa_nil (by rfl)) (by decide) (by decide) (by rfl) (by rfl)) ?_
  refine ha c r σ H _ hK hcm tk E (h.bind fun x r1 _ v H1 E1 k1 u1 q1 h1 => ?_)
  obtain ⟨d, ex, h2⟩ := h1.lift
  obtain ⟨ys, ey, h3⟩ := h2.lift
  have vx := RV.vw E1 q1.base ex
  rw [hK] at vx
  unfold srtD at ey
  rw [Option.bind_eq_some_iff] at ey
  obtain ⟨zs, ez, ey⟩ := ey
  split at ey
  · rename_i hh
    cases ey
    obtain ⟨l, rfl, hl⟩ := strs_vw vx ez
    refine ⟨l, zs, rfl, hl, hh.1, fun p hp => ?_⟩
    refine ⟨p, SS.once zs, rfl, upd_same, hh.2, fun ws q pm so hq => ?_⟩
    have g := Post.gv (x := .f _) h3 E1
    rw [hK] at g
    have hq1 := upd_none hq
    refine g _ _ ((Ext.new hp).trans (Ext.new hq)) ⟨q, rfl, .lst upd_same ?_, AvF c r1 E1 q hq1, hq1⟩
    rw [srt_one pm so]
    exact strs_rel _
  · cases ey
theorem snd_lns {a : E} {ea : Expr} {p1 p2 p3 p4 : Pos} (C : Cok X cm sg tb gs k) (ha : Snd X cm tb a ea) (g1 : Gl X "len") (g2 : Gl X "set") (na : notStar ea = true) :
    Snd X cm tb (.lns a) (.Call (.Name "len" p1) [.Call (.Name "set" p2) [ea] [] p3] [] p4) := by
  intro c r σ H Q hK hcm tk E h
  unfold ev at h
  refine SE.of (pe_callB SS.cr_lenW g1 (C.bl _ (by simp)) boot_len (pa_cons (pe_set C g2 na) pa_nil (by rfl)) (by decide) (by decide) (by rfl) (by rfl)) ?_
  refine ha c r σ H _ hK hcm tk E (h.bind fun x r1 _ v H1 E1 k1 u1 q1 h1 => ?_)
  obtain ⟨d, ex, h2⟩ := h1.lift
  obtain ⟨n, ey, h3⟩ := h2.lift
  have vx := RV.vw E1 q1.base ex
  rw [hK] at vx
  unfold lnsD at ey
  rw [Option.bind_eq_some_iff] at ey
  obtain ⟨zs, ez, ey⟩ := ey
  split at ey
  · rename_i hh
    cases ey
    obtain ⟨l, rfl, hl⟩ := strs_vw vx ez
    refine ⟨l, zs, rfl, hl, hh, fun p hp => ?_⟩
    exact ⟨p, SS.once zs, rfl, upd_same, h3.okd E1 (Ext.new hp) (.int _)⟩
  · cases ey
theorem snd_srd {a b : E} {ea eb : Expr} {p1 p2 p3 p4 p5 p6 p7 : Pos} (C : Cok X cm sg tb gs k) (ha : Snd X cm tb a ea) (hb : Snd X cm tb b eb) (g1 : Gl X "sorted") (g2 : Gl X "set") (na : notStar ea = true) (nb : notStar eb = true) :
    Snd X cm tb (.srd a b) (.Call (.Name "sorted" p1) [.BinOp (.Call (.Name "set" p2) [ea] [] p3) .Sub (.Call (.Name "set" p4) [eb] [] p5) p6] [] p7) := by
  intro c r σ H Q hK hcm tk E h
  unfold ev at h
  refine SE.of (pe_callB (SS.cr_sortedW C.hc) g1 (C.bl _ (by simp)) boot_sorted (pa_cons (pe_op SS.op_minusW (pe_set C g2 na) (pe_set C g2 nb)) pa_nil (by rfl)) (by decide) (by decide) (by rfl) (by rfl)) ?_
  refine ha c r σ H _ hK hcm tk E (h.bind fun x r1 _ v H1 E1 k1 u1 q1 h1 => ?_)
  obtain ⟨d, ex, h2⟩ := h1.lift
  have vx := RV.vw E1 q1.base ex
  rw [hK] at vx
  obtain ⟨zs, ez, h3⟩ := h2.lift
  unfold setD at ez
  rw [Option.bind_eq_some_iff] at ez
  obtain ⟨zs1, ez1, ez⟩ := ez
  split at ez
  · rename_i hh
    cases ez
    obtain ⟨l, rfl, hl⟩ := strs_vw vx ez1
    refine ⟨l, zs1, rfl, hl, hh, fun p hp => ?_⟩
    have kp : Kp (Av' c r1) H1 (upd H1 p (SS.SetO X.w p (SS.once zs1))) := (Ext.new hp).kp _
    refine hb c r1 σ _ _ hK hcm tk (E1.ext (Ext.new hp)) ((h3.rebase kp (Up.refl _)).bind fun y r2 _ w H2 E2 k2 u2 q2 h4 => ?_)
    have hp2 : H2 p = some (SS.SetO X.w p (SS.once zs1)) := k2 p _ (AvF c r1 E1 p hp) upd_same
    obtain ⟨e, ey, h5⟩ := h4.lift
    have vy := RV.vw E2 q2.base ey
    rw [hK] at vy
    obtain ⟨us, eu, h6⟩ := h5.lift
    obtain ⟨ys, ew, h7⟩ := h6.lift
    unfold setD at eu
    rw [Option.bind_eq_some_iff] at eu
    obtain ⟨us1, eu1, eu⟩ := eu
    split at eu
    · rename_i hh2
      cases eu
      unfold srdD at ew
      split at ew
      · rename_i few
        cases ew
        obtain ⟨l2, rfl, hl2⟩ := strs_vw vy eu1
        refine ⟨l2, us1, rfl, hl2, hh2, fun p2 hn2 => ?_⟩
        have ne : p ≠ p2 := fun q => by rw [q] at hp2; rw [hp2] at hn2; cases hn2
        refine ⟨p, p2, SS.once zs1, SS.once us1, rfl, rfl, by rw [upd_ne ne]; exact hp2, upd_same, ne, few, fun p3 hn3 => ?_⟩
        refine ⟨p3, _, rfl, upd_same, Nat.lt_of_le_of_lt (List.length_filter_le _ _) few, fun ws q pm so hq => ?_⟩
        have g := Post.gv (x := .f _) h7 E2
        rw [hK] at g
        have hq1 := upd_none (upd_none hq)
        refine g _ _ (((Ext.new hn2).trans (Ext.new hn3)).trans (Ext.new hq)) ⟨q, rfl, .lst upd_same ?_, AvF c r2 E2 q hq1, hq1⟩
        rw [srt_one pm so]
        exact strs_rel _
      · cases ew
    · cases eu
  · cases ez
end
end Di
namespace Di
open PySem PySem.Spec PyProof.Rows L2
section
variable {c : Ct} {σ : L2.St} {H H' : Hp} {r : En}
theorem chg_slot {i : Nat} {d : PyData} (h : (slot r i).own = true) : (∀ j, j ≠ i → slot (chg r i d) j = slot r j) ∧ (slot (chg r i d) i).own = true ∧ (slot (chg r i d) i).data = some d ∧ (chg r i d).length = r.length ∧ (∀ x, slot (chg r i d) i = .rf x → ∃ y, slot r i = .rf y) ∧ (∀ x, slot (chg r i d) i = .ow x → ∃ y, slot r i = .ow y) ∧ (∀ y, slot r i = .rf y → slot (chg r i d) i = .rf d) := by
  have hi : i < r.length := slot_lt (by intro e; rw [e] at h; cases h)
  unfold chg
  refine ⟨fun j hj => by rw [slot_set hi, if_neg hj], ?_, ?_, by rw [List.length_set], ?_, ?_, ?_⟩
  all_goals (rw [slot_set hi, if_pos rfl]; cases q : slot r i <;> rw [q] at h <;> first | (cases h; done) | simp [Sl.own, Sl.data])
theorem chg_own {i : Nat} {d : PyData} (h : (slot r i).own = true) (j : Nat) : (slot (chg r i d) j).own = (slot r j).own := by
  obtain ⟨h1, h2, _⟩ := chg_slot (d := d) h
  by_cases e : j = i
  · subst e; rw [h2, h]
  · rw [h1 j e]
theorem chg_av {i : Nat} {d : PyData} (h : (slot r i).own = true) (a : Addr) : Av' c (chg r i d) a ↔ Av' c r a := by
  constructor
  · exact fun q => ⟨q.1, fun j hj => q.2 j (by rw [chg_own h]; exact hj)⟩
  · exact fun q => ⟨q.1, fun j hj => q.2 j (by rw [chg_own h] at hj; exact hj)⟩
theorem chg_up {i : Nat} {d : PyData} (h : (slot r i).own = true) : Up r (chg r i d) := by
  obtain ⟨h1, h2, h3, h4, _⟩ := chg_slot (d := d) h
  refine ⟨h4, fun j hj => by rw [chg_own h] at hj; exact hj, fun j x hx => ?_, fun j x hx => ?_⟩
  · by_cases e : j = i
    · subst e; exact ⟨d, h3⟩
    · rw [h1 j e]; exact ⟨x, hx⟩
  · by_cases e : j = i
    · subst e; rw [hx] at h; cases h
    · rw [h1 j e]; exact hx
theorem av_of_iff {P P' : Addr → Prop} {K : PySem.W.Frag} {v : V} {d : PyData} (h : ∀ a, P a ↔ P' a) (q : Rp K H P v d) : Rp K H P' v d := q.mono (Kp.refl _ _) fun a => (h a).mp
/-- behind a change of an own object -/
theorem Er.chg (E : Er c H σ r) {i : Nat} {d : PyData} (h : (slot r i).own = true) (k : ∀ a o, a ≠ c.al i → H a = some o → H' a = some o) (w : Ow c.K H' (Av' c r) (c.al i) d) : Er c H' σ (chg r i d) ∧ Kp (Av' c r) H H' := by
  obtain ⟨h1, h2, h3, h4, h5, h6, h7⟩ := chg_slot (d := d) h
  have kp : Kp (Av' c r) H H' := fun a o p e => k a o (p.2 i h) e
  have av : ∀ a, Av' c r a → Av' c (Di.chg r i d) a := fun a => (chg_av h a).mpr
  refine ⟨⟨by rw [h4]; exact E.len, fun a o p e => ?_, fun j x e => ?_, fun j x e e' => ?_, fun j x e => ?_, fun j x e => ?_, fun j l hj hl => E.inj j l (by rw [chg_own h] at hj; exact hj) (by rw [chg_own h] at hl; exact hl), fun p hp => ?_, fun a ha => ?_⟩, kp⟩
  · refine k a o (fun ea => ?_) (E.keep a o p e)
    cases q : slot r i with
    | un => rw [q] at h; cases h
    | sh _ => rw [q] at h; cases h
    | ow y => have := (E.ow i y q).2; rw [← ea, e] at this; cases this
    | rf y => exact p _ (E.rf i y q) ea
  · by_cases q : j = i
    · subst q; rw [e] at h2; cases h2
    · rw [h1 j q] at e
      obtain ⟨v, hv, g⟩ := E.sh j x e
      exact ⟨v, hv, g.mono kp av⟩
  · by_cases q : j = i
    · subst q
      rw [h3] at e'; cases e'
      obtain ⟨y, hy⟩ := own_data h
      obtain ⟨hv, _⟩ := E.on j y h hy
      exact ⟨hv, w.mono (fun _ z => z) (Kp.refl _ _) av⟩
    · rw [h1 j q] at e e'
      obtain ⟨hv, g⟩ := E.on j x e e'
      exact ⟨hv, g.mono (fun o z => k _ o (fun ea => q (E.inj j i e h ea)) z) kp av⟩
  · by_cases q : j = i
    · subst q; obtain ⟨y, hy⟩ := h6 x e; exact E.ow j y hy
    · rw [h1 j q] at e; exact E.ow j x e
  · by_cases q : j = i
    · subst q; obtain ⟨y, hy⟩ := h5 x e; exact E.rf j y hy
    · rw [h1 j q] at e; exact E.rf j x e
  · obtain ⟨ea, y, hy⟩ := E.lent p hp
    refine ⟨ea, ?_⟩
    by_cases q : p.1 = i
    · rw [q] at hy ⊢; exact ⟨d, h7 y hy⟩
    · rw [h1 _ q]; exact ⟨y, hy⟩
  · refine E.new a ?_
    cases q : H a with
    | none => rfl
    | some o =>
      by_cases ea : a = c.al i
      · obtain ⟨o', ho, _⟩ := w.some
        rw [← ea, ha] at ho; cases ho
      · rw [k a o ea q] at ha; cases ha
end
section
variable {X : Cx} {cm : Nat → Value} {sg : List Sig} {tb : List Fn} {gs : List (Str × PyData)} {k : Nat}
theorem base_name {x : Str} {p : Pos} {m : Str} {env : Env} {w : Sem Value} : attributeBase (.Name x p) m env w = w := by rfl
/-- an own slot's list -/
theorem own_list {c : Ct} {σ : L2.St} {H : Hp} {r : En} (E : Er c H σ r) {i : Nat} {xs : List PyData} (h : (slot r i).own = true) (hd : (slot r i).data = some (.list xs)) : σ[i]? = some (some (.ref (c.al i))) ∧ ∃ vs, H (c.al i) = some (.lst vs) ∧ RpL c.K H (Av' c r) vs xs := by
  obtain ⟨hv, w⟩ := E.on i _ h hd
  cases w with
  | lst w g => exact ⟨hv, _, w, g⟩
theorem ownL_own {s : Sl} {xs : List PyData} (h : ownL s = some xs) : s.own = true ∧ s.data = some (.list xs) := by
  cases s with
  | un => cases h
  | sh d => cases h
  | ow d => cases d <;> cases h; exact ⟨rfl, rfl⟩
  | rf d => cases d <;> cases h; exact ⟨rfl, rfl⟩
/-- what stands behind a change of an own list -/
theorem post_chg {γ : Type} {c : Ct} {σ : L2.St} {H : Hp} {r : En} {Q : VK} (E : Er c H σ r) {i : Nat} {vs : List V} {xs : List PyData} {d : PyData} {v : V} (h : (slot r i).own = true) (w : RpL c.K H (Av' c r) vs xs) (rv0 : Rp c.K H (Av' c r) v d)
    (q : Post c σ (rv c σ) r H Q (.ok (.d d) (chg r i (.list xs)))) : Q v (upd H (c.al i) (.lst vs)) := by
  have k0 : ∀ a o, a ≠ c.al i → H a = some o → upd H (c.al i) (.lst vs) a = some o := fun a o ne e => by rw [upd_ne ne]; exact e
  have kp : Kp (Av' c r) H (upd H (c.al i) (.lst vs)) := fun a o p e => k0 a o (p.2 i h) e
  obtain ⟨E', _⟩ := Er.chg E h k0 (.lst upd_same (w.mono kp fun _ p => p))
  exact q v _ E' kp (chg_up h) ⟨rv0.mono kp fun a => (chg_av h a).mpr, trivial⟩
theorem snd_app {i : Nat} {a : E} {x : Str} {ea : Expr} {p p1 p2 : Pos} (hv : PE X (.Name x p) (tVar i)) (ha : Snd X cm tb a ea) (hl : (p1.endLine == p2.line) = true) (na : notStar ea = true) :
    Snd X cm tb (.app i a) (.Call (.Attribute (.Name x p) "append" p1) [ea] [] p2) := by
  intro c r σ H Q hK hcm tk E h
  unfold ev at h
  obtain ⟨xs0, e0, h⟩ := h.lift
  obtain ⟨o1, o2⟩ := ownL_own e0
  obtain ⟨hσ, vs0, hw0, _⟩ := own_list E o1 o2
  refine SE.of (pe_bm PySem.F.plainAttrs_list PySem.F.slot_list_append PySem.F.type_list_append mt_append hv (pa_cons (se ea) pa_nil (nostar na)) base_name (by rw [nostar na]; rfl) hl (nostar na) (by rfl)) ?_
  refine ⟨_, hσ, Or.inl ⟨rfl, _, .inl (.inl hw0)⟩, ?_⟩
  refine ha c r σ H _ hK hcm tk E (h.bind fun x r1 _ v H1 E1 k1 u1 q1 h1 => ?_)
  obtain ⟨d, r2, _, E2, u2, rp, h2⟩ := cap_ok E1 q1 h1
  obtain ⟨xs, e3, h3⟩ := h2.lift
  obtain ⟨o3, o4⟩ := ownL_own e3
  obtain ⟨_, vs, hw, g⟩ := own_list E2 o3 o4
  split at h3
  · rename_i hlen
    refine ⟨_, _, _, rfl, rfl, hw, by rw [g.length]; exact hlen, ?_⟩
    exact post_chg (γ := Unit) E2 o3 (g.append (.one rp)) .non h3
  · exact h3.elim
theorem snd_ext {i : Nat} {a : E} {x : Str} {ea : Expr} {p p1 p2 : Pos} (hv : PE X (.Name x p) (tVar i)) (ha : Snd X cm tb a ea) (hl : (p1.endLine == p2.line) = true) (na : notStar ea = true) :
    Snd X cm tb (.ext i a) (.Call (.Attribute (.Name x p) "extend" p1) [ea] [] p2) := by
  intro c r σ H Q hK hcm tk E h
  unfold ev at h
  obtain ⟨xs0, e0, h⟩ := h.lift
  obtain ⟨o1, o2⟩ := ownL_own e0
  obtain ⟨hσ, vs0, hw0, _⟩ := own_list E o1 o2
  refine SE.of (pe_bm PySem.F.plainAttrs_list PySem.F.slot_list_extend PySem.F.type_list_extend mt_extend hv (pa_cons (se ea) pa_nil (nostar na)) base_name (by rw [nostar na]; rfl) hl (nostar na) (by rfl)) ?_
  refine ⟨_, hσ, Or.inl ⟨rfl, _, .inl (.inl hw0)⟩, ?_⟩
  refine ha c r σ H _ hK hcm tk E (h.bind fun x r1 _ v H1 E1 k1 u1 q1 h1 => ?_)
  cases x with
  | d d => exact h1.elim
  | o j => exact h1.elim
  | f d =>
    cases d <;> try exact h1.elim
    rename_i ys
    obtain ⟨xs, e3, h3⟩ := h1.lift
    obtain ⟨o3, o4⟩ := ownL_own e3
    obtain ⟨_, vs, hw, g⟩ := own_list E1 o3 o4
    split at h3
    · rename_i hlen
      obtain ⟨b, rfl, w, av, _⟩ := q1.base
      cases w with
      | lst w gy =>
        refine ⟨_, b, _, _, rfl, rfl, hw, w, by rw [g.length, gy.length]; exact hlen, ?_⟩
        exact post_chg (γ := Unit) E1 o3 (g.append gy) .non h3
    · exact h3.elim
theorem snd_pop {i : Nat} {x : Str} {p p1 p2 : Pos} (hv : PE X (.Name x p) (tVar i)) (hl : (p1.endLine == p2.line) = true) : Snd X cm tb (.pop i) (.Call (.Attribute (.Name x p) "pop" p1) [] [] p2) := by
  intro c r σ H Q hK hcm tk E h
  unfold ev at h
  obtain ⟨xs, e0, h⟩ := h.lift
  obtain ⟨d, ed, h⟩ := h.lift
  obtain ⟨o1, o2⟩ := ownL_own e0
  obtain ⟨hσ, vs, hw, g⟩ := own_list E o1 o2
  refine SE.of (pe_bm0 PySem.F.plainAttrs_list PySem.F.slot_list_pop PySem.F.type_list_pop mt_pop hv base_name hl) ?_
  obtain ⟨v, ev, rp⟩ := g.get ed
  refine ⟨_, hσ, Or.inl ⟨rfl, _, .inl (.inl hw)⟩, _, vs, v, rfl, rfl, hw, by rw [g.length]; exact ev, ?_⟩
  have gd : RpL c.K H (Av' c r) vs.dropLast xs.dropLast := by
    rw [List.dropLast_eq_take, List.dropLast_eq_take, g.length]
    exact g.take _
  exact post_chg (γ := Unit) E o1 gd rp h
end
end Di
namespace Di
open PySem PySem.Spec PyProof.Rows L2
section
variable {X : Cx} {cm : Nat → Value} {sg : List Sig} {tb : List Fn} {gs : List (Str × PyData)} {k : Nat}
/-- arguments by their kinds -/
inductive RA (c : Ct) (σ : L2.St) (H : Hp) (r : En) : List Bool → List V → List Ar → Prop
  | nil : RA c σ H r [] [] []
  | val {ms : List Bool} {v : V} {vs : List V} {d : PyData} {as : List Ar} : Rp c.K H (Av' c r) v d → RA c σ H r ms vs as → RA c σ H r (false :: ms) (v :: vs) (.d d :: as)
  | ref {ms : List Bool} {v : V} {vs : List V} {i : Nat} {as : List Ar} : σ[i]? = some (some v) → RA c σ H r ms vs as → RA c σ H r (true :: ms) (v :: vs) (.r i :: as)
theorem RA.mono {c : Ct} {σ : L2.St} {H H' : Hp} {r r' : En} (k : Kp (Av' c r) H H') (u : Up r r') : ∀ {ms : List Bool} {vs : List V} {as : List Ar}, RA c σ H r ms vs as → RA c σ H' r' ms vs as
  | _, _, _, .nil => .nil
  | _, _, _, .val h g => .val (h.mono k fun a => u.av) (g.mono k u)
  | _, _, _, .ref h g => .ref h (g.mono k u)
theorem RA.append {c : Ct} {σ : L2.St} {H : Hp} {r : En} : ∀ {ms ns : List Bool} {vs ws : List V} {as bs : List Ar}, RA c σ H r ms vs as → RA c σ H r ns ws bs → RA c σ H r (ms ++ ns) (vs ++ ws) (as ++ bs)
  | _, _, _, _, _, _, .nil, h => h
  | _, _, _, _, _, _, .val h g, h' => .val h (g.append h')
  | _, _, _, _, _, _, .ref h g, h' => .ref h (g.append h')
theorem RA.length {c : Ct} {σ : L2.St} {H : Hp} {r : En} : ∀ {ms : List Bool} {vs : List V} {as : List Ar}, RA c σ H r ms vs as → vs.length = as.length
  | _, _, _, .nil => rfl
  | _, _, _, .val _ g => by simp [g.length]
  | _, _, _, .ref _ g => by simp [g.length]
def ra (c : Ct) (σ : L2.St) (ms : List Bool) : List V → Hp → En → List Ar → Prop := fun vs H r as => RA c σ H r ms vs as
def SndM (X : Cx) (cm : Nat → Value) (tb : List Fn) (as : Es) (es : List Expr) : Prop :=
  ∀ (ms : List Bool) (c : Ct) (r : En) (σ : L2.St) (H : Hp) (Q : List V → Hp → Prop), c.K = X.K → c.cm = cm → Takes X c.W → Er c H σ r → Post c σ (ra c σ ms) r H Q (evm tb as ms r) → SA X es σ H Q
theorem sndm_nil : SndM X cm tb .nil [] := by
  intro ms c r σ H Q hK hcm tk E h
  cases ms with
  | nil => exact SA.of pa_nil (Post.ok (x := []) h E (Ext.refl _) .nil)
  | cons m ms => exact h.elim
theorem sndm_cons {a : E} {as : Es} {e : Expr} {es : List Expr} (ha : Snd X cm tb a e) (hs : SndM X cm tb as es) (hn : notStar e = true) : SndM X cm tb (.cons a as) (e :: es) := by
  intro ms c r σ H Q hK hcm tk E h
  refine SA.of (pa_cons (se e) (sa es) (nostar hn)) ?_
  cases ms with
  | nil => exact h.elim
  | cons m ms =>
    cases m with
    | false =>
      unfold evm at h
      refine ha c r σ H _ hK hcm tk E (h.bind fun x r1 _ v H1 E1 k1 u1 q1 h1 => ?_)
      obtain ⟨d, r2, _, E2, u2, rp, h2⟩ := cap_ok E1 q1 h1
      refine hs ms c r2 σ H1 _ hK hcm tk E2 (h2.bind fun ds r3 _ vs H3 E3 k3 u3 q3 h3 => ?_)
      exact h3.ok E3 (Ext.refl _) (.val (rp.mono k3 fun a => u3.av) q3)
    | true =>
      unfold evm at h
      refine ha c r σ H _ hK hcm tk E (h.bind fun x r1 _ v H1 E1 k1 u1 q1 h1 => ?_)
      refine hs ms c r1 σ H1 _ hK hcm tk E1 (h1.bind fun ds r3 _ vs H3 E3 k3 u3 q3 h3 => ?_)
      cases x with
      | d d => exact h3.elim
      | f d => exact h3.elim
      | o i => exact Post.ok (x := .r i :: ds) h3 E3 (Ext.refl _) (.ref q1.base.1 q3)
/-- the same of keywords -/
def SndKw (X : Cx) (cm : Nat → Value) (tb : List Fn) (as : Es) (es : List Keyword) : Prop :=
  ∀ (ms : List Bool) (c : Ct) (r : En) (σ : L2.St) (H : Hp) (Q : List V → Hp → Prop), c.K = X.K → c.cm = cm → Takes X c.W → Er c H σ r → Post c σ (ra c σ ms) r H Q (evm tb as ms r) → SK X es σ H Q
theorem SK.of {e : List Keyword} {t : TA} (h : PK X e t) {σ : L2.St} {H : Hp} {Q : List V → Hp → Prop} (q : t σ H Q) : SK X e σ H Q := fun pos pins s I => h.run pos pins s σ H Q I q
theorem sndkw_nil : SndKw X cm tb .nil [] := by
  intro ms c r σ H Q hK hcm tk E h
  cases ms with
  | nil => exact SK.of pk_nil (Post.ok (x := []) h E (Ext.refl _) .nil)
  | cons m ms => exact h.elim
theorem sndkw_cons {a : E} {as : Es} {e : Expr} {nm : Option Str} {p : Pos} {es : List Keyword} (ha : Snd X cm tb a e) (hs : SndKw X cm tb as es) : SndKw X cm tb (.cons a as) (⟨nm, e, p⟩ :: es) := by
  intro ms c r σ H Q hK hcm tk E h
  refine SK.of (pk_cons (se e) (sk es)) ?_
  cases ms with
  | nil => exact h.elim
  | cons m ms =>
    cases m with
    | false =>
      unfold evm at h
      refine ha c r σ H _ hK hcm tk E (h.bind fun x r1 _ v H1 E1 k1 u1 q1 h1 => ?_)
      obtain ⟨d, r2, _, E2, u2, rp, h2⟩ := cap_ok E1 q1 h1
      refine hs ms c r2 σ H1 _ hK hcm tk E2 (h2.bind fun ds r3 _ vs H3 E3 k3 u3 q3 h3 => ?_)
      exact h3.ok E3 (Ext.refl _) (.val (rp.mono k3 fun a => u3.av) q3)
    | true =>
      unfold evm at h
      refine ha c r σ H _ hK hcm tk E (h.bind fun x r1 _ v H1 E1 k1 u1 q1 h1 => ?_)
      refine hs ms c r1 σ H1 _ hK hcm tk E1 (h1.bind fun ds r3 _ vs H3 E3 k3 u3 q3 h3 => ?_)
      cases x with
      | d d => exact h3.elim
      | f d => exact h3.elim
      | o i => exact Post.ok (x := .r i :: ds) h3 E3 (Ext.refl _) (.ref q1.base.1 q3)

theorem nodup_cons {i : Nat} {l : List Nat} (h : nodup (i :: l) = true) : i ∉ l ∧ nodup l = true := by
  simp only [nodup, Bool.and_eq_true, Bool.not_eq_true', List.contains_eq_mem, decide_eq_false_iff_not] at h
  exact h
/-- what the callee is handed -/
theorem aok_of {c : Ct} {σ : L2.St} {H : Hp} {r : En} (E : Er c H σ r) : ∀ {ms : List Bool} {vs : List V} {as : List Ar} {ds : List PyData}, RA c σ H r ms vs as → datas r as = some ds → nodup (Ar.slots as) = true →
    AOk c.K H (Av' c r) ms vs ds ((Ar.slots as).map c.al) ∧ ∀ i ∈ Ar.slots as, (slot r i).own = true
  | _, _, _, ds, .nil, e, _ => by cases e; exact ⟨.nil, fun i h => by cases h⟩
  | _, _, _, ds, .val (d := d) (as := as) h g, e, n => by
    simp only [datas, Ar.data] at e
    cases q : datas r as with
    | none => rw [q] at e; cases e
    | some ds' =>
      rw [q] at e; cases e
      obtain ⟨h1, h2⟩ := aok_of E g q n
      exact ⟨.val h h1, h2⟩
  | _, _, _, ds, .ref (i := i) (as := as) h g, e, n => by
    simp only [datas, Ar.data] at e
    obtain ⟨n1, n2⟩ := nodup_cons n
    cases q : datas r as with
    | none => rw [q] at e; split at e <;> first | (cases e; done) | (rename_i z; cases z)
    | some ds' =>
      rw [q] at e
      by_cases o : (slot r i).own = true
      · rw [if_pos o] at e
        obtain ⟨d, hd⟩ := own_data o
        rw [hd] at e; cases e
        obtain ⟨hv, w⟩ := E.on i d o hd
        rw [h] at hv; cases hv
        obtain ⟨h1, h2⟩ := aok_of E g q n2
        refine ⟨.ref w (fun av => av.2 i o rfl) (fun hm => ?_) h1, fun j hj => ?_⟩
        · obtain ⟨j, hj, ej⟩ := List.mem_map.mp hm
          exact n1 (E.inj j i (h2 j hj) o ej ▸ hj)
        · rcases List.mem_cons.mp hj with e1 | e1
          · rw [e1]; exact o
          · exact h2 j e1
      · rw [if_neg o] at e; cases e
/-- all lent slots' contents change at once -/
structure Puts (r r' : En) (is : List Nat) (outs : List PyData) : Prop where
  len : r'.length = r.length
  out : ∀ j, j ∉ is → slot r' j = slot r j
  at_ : ∀ (n j : Nat), is[n]? = some j → ∃ d, outs[n]? = some d ∧ (slot r' j).data = some d
  own : ∀ j, (slot r' j).own = (slot r j).own
  ow : ∀ j x, slot r' j = .ow x → ∃ y, slot r j = .ow y
  rf : ∀ j x, slot r' j = .rf x → ∃ y, slot r j = .rf y
  fr : ∀ j y, slot r j = .rf y → ∃ x, slot r' j = .rf x
theorem puts_spec : ∀ {is : List Nat} {outs : List PyData} {r r' : En}, puts r is outs = some r' → nodup is = true → Puts r r' is outs
  | [], [], r, r', e, _ => by
    cases e
    exact ⟨rfl, fun _ _ => rfl, fun n j h => by simp at h, fun _ => rfl, fun j x h => ⟨x, h⟩, fun j x h => ⟨x, h⟩, fun j x h => ⟨x, h⟩⟩
  | i :: is, d :: outs, r, r', e, n => by
    obtain ⟨n1, n2⟩ := nodup_cons n
    simp only [puts] at e
    by_cases oi : (slot r i).own = true
    · rw [if_pos oi] at e
      have z := puts_spec e n2
      obtain ⟨h1, h2, h3, h4, h5, h6, h7⟩ := chg_slot (d := d) oi
      refine ⟨z.len.trans h4, fun j hj => ?_, fun n j hn => ?_, fun j => (z.own j).trans (chg_own oi j), fun j x hx => ?_, fun j x hx => ?_, fun j y hy => ?_⟩
      · simp only [List.mem_cons, not_or] at hj
        rw [z.out j hj.2, h1 j hj.1]
      · cases n with
        | zero =>
          simp at hn; subst hn
          exact ⟨d, rfl, by rw [z.out i n1]; exact h3⟩
        | succ n => simpa using z.at_ n j (by simpa using hn)
      · obtain ⟨y, hy⟩ := z.ow j x hx
        by_cases q : j = i
        · subst q; exact h6 y hy
        · rw [h1 j q] at hy; exact ⟨y, hy⟩
      · obtain ⟨y, hy⟩ := z.rf j x hx
        by_cases q : j = i
        · subst q; exact h5 y hy
        · rw [h1 j q] at hy; exact ⟨y, hy⟩
      · refine z.fr j (if j = i then d else y) ?_
        by_cases q : j = i
        · subst q; rw [if_pos rfl]; exact h7 y hy
        · rw [h1 j q, if_neg q]; exact hy
    · rw [if_neg oi] at e; cases e
  | [], _ :: _, _, _, e, _ => by cases e
  | _ :: _, [], _, _, e, _ => by cases e
theorem OOk.get {K : PySem.W.Frag} {H : Hp} {P : Addr → Prop} : ∀ {l : List Addr} {ds : List PyData} {n : Nat} {a : Addr} {d : PyData}, OOk K H P l ds → l[n]? = some a → ds[n]? = some d → Ow K H P a d
  | _, _, _, _, _, .nil, h, _ => by simp at h
  | _, _, 0, _, _, .cons w _, h, g => by simp at h g; subst h g; exact w
  | _, _, n + 1, _, _, .cons _ o, h, g => o.get (n := n) (by simpa using h) (by simpa using g)
theorem OOk.mono {K : PySem.W.Frag} {H : Hp} {P P' : Addr → Prop} (h : ∀ a, P a → P' a) : ∀ {l : List Addr} {ds : List PyData}, OOk K H P l ds → OOk K H P' l ds
  | _, _, .nil => .nil
  | _, _, .cons w g => .cons (w.mono (fun _ q => q) (Kp.refl _ _) h) (g.mono h)
theorem puts_ok {c : Ct} {σ : L2.St} {is : List Nat} {outs : List PyData} {r r' : En} {H H' : Hp} (E : Er c H σ r) (e : puts r is outs = some r') (ho : ∀ i ∈ is, (slot r i).own = true) (k : Kp (fun a => a ∉ is.map c.al) H H')
    (o : OOk c.K H' (Av' c r) (is.map c.al) outs) (n : nodup is = true) : Er c H' σ r' ∧ Up r r' ∧ (∀ a, Av' c r' a ↔ Av' c r a) ∧ Kp (Av' c r) H H' := by
  have z := puts_spec e n
  have av : ∀ a, Av' c r' a ↔ Av' c r a := fun a => ⟨fun q => ⟨q.1, fun j hj => q.2 j (by rw [z.own]; exact hj)⟩, fun q => ⟨q.1, fun j hj => q.2 j (by rw [← z.own]; exact hj)⟩⟩
  have off : ∀ a, Av' c r a → a ∉ is.map c.al := fun a p hm => by
    obtain ⟨j, hj, ej⟩ := List.mem_map.mp hm
    exact p.2 j (ho j hj) ej.symm
  have kp : Kp (Av' c r) H H' := fun a u p q => k a u (off a p) q
  refine ⟨⟨by rw [z.len]; exact E.len, fun a u p q => ?_, fun j x hx => ?_, fun j x hx hd => ?_, fun j x hx => ?_, fun j x hx => ?_, fun i j hi hj => E.inj i j (by rw [← z.own]; exact hi) (by rw [← z.own]; exact hj), fun p hp => ?_, fun a ha => ?_⟩,
    ⟨z.len, fun j hj => by rw [← z.own]; exact hj, fun j x hx => ?_, fun j x hx => ?_⟩, av, kp⟩
  · refine k a u (fun hm => ?_) (E.keep a u p q)
    obtain ⟨j, hj, ej⟩ := List.mem_map.mp hm
    have oj := ho j hj
    cases w : slot r j with
    | un => rw [w] at oj; cases oj
    | sh _ => rw [w] at oj; cases oj
    | ow y => have := (E.ow j y w).2; rw [ej, q] at this; cases this
    | rf y => exact p _ (E.rf j y w) ej.symm
  · have hn : j ∉ is := fun hm => by
      have := ho j hm
      rw [← z.own, hx] at this; cases this
    rw [z.out j hn] at hx
    obtain ⟨v, hv, g⟩ := E.sh j x hx
    exact ⟨v, hv, g.mono kp fun a => (av a).mpr⟩
  · rw [z.own] at hx
    obtain ⟨y, hy⟩ := own_data hx
    obtain ⟨hv, w⟩ := E.on j y hx hy
    refine ⟨hv, ?_⟩
    by_cases hm : j ∈ is
    · obtain ⟨n, hn⟩ := List.getElem?_of_mem hm
      obtain ⟨d, h1, h2⟩ := z.at_ n j hn
      rw [h2] at hd; cases hd
      exact (o.get (n := n) (by rw [List.getElem?_map, hn]; rfl) h1).mono (fun _ q => q) (Kp.refl _ _) fun a => (av a).mpr
    · rw [z.out j hm, hy] at hd; cases hd
      refine w.mono (fun u q => k _ u (fun hq => ?_) q) kp fun a => (av a).mpr
      obtain ⟨i, hi, ei⟩ := List.mem_map.mp hq
      exact hm (E.inj i j (ho i hi) hx ei ▸ hi)
  · obtain ⟨y, hy⟩ := z.ow j x hx; exact E.ow j y hy
  · obtain ⟨y, hy⟩ := z.rf j x hx; exact E.rf j y hy
  · obtain ⟨e1, y, hy⟩ := E.lent p hp
    exact ⟨e1, z.fr _ y hy⟩
  · refine E.new a ?_
    cases q : H a with
    | none => rfl
    | some u =>
      by_cases hm : a ∈ is.map c.al
      · obtain ⟨j, hj, ej⟩ := List.mem_map.mp hm
        obtain ⟨n, hn⟩ := List.getElem?_of_mem hj
        obtain ⟨d, h1, _⟩ := z.at_ n j hn
        obtain ⟨o', ho, _⟩ := (o.get (n := n) (by rw [List.getElem?_map, hn]; rfl) h1).some
        rw [ej, ha] at ho; cases ho
      · rw [k a u hm q] at ha; cases ha
  · by_cases hm : j ∈ is
    · obtain ⟨n, hn⟩ := List.getElem?_of_mem hm
      obtain ⟨d, _, h2⟩ := z.at_ n j hn
      exact ⟨d, h2⟩
    · rw [z.out j hm]; exact ⟨x, hx⟩
  · have hn : j ∉ is := fun hm => by
      have := ho j hm
      rw [hx] at this; cases this
    rw [z.out j hn]; exact hx

/-! ### calls of functions of the text -/
theorem kw_names {env : Env} {pos : Pos} : ∀ {ks : List Keyword}, ks.all (fun q => q.arg.isSome) = true → (backToKw pos (keywordEach ks env)).all (·.1.isSome) = true ∧ (backToKw pos (keywordEach ks env)).any (·.1.isNone) = false ∧ (backToKw pos (keywordEach ks env)).filterMap (·.1) = ks.filterMap (·.arg)
  | [], _ => ⟨rfl, rfl, rfl⟩
  | ⟨nm, e, p⟩ :: ks, h => by
    rw [List.all_cons, Bool.and_eq_true] at h
    obtain ⟨z1, z2, z3⟩ := kw_names (env := env) (pos := pos) h.2
    cases nm with
    | none => cases h.1
    | some x =>
      have e0 : backToKw pos (keywordEach (⟨some x, e, p⟩ :: ks) env) = (some x, do let v ← eval e env; standAt pos; pure v) :: backToKw pos (keywordEach ks env) := rfl
      rw [e0, List.all_cons, List.any_cons, List.filterMap_cons, List.filterMap_cons]
      exact ⟨by rw [z1]; rfl, by rw [z2]; rfl, by rw [z3]⟩
theorem args_all {us ws : List Value} {ks : List Str} (h : ws.length = ks.length) : argsOf (us ++ ws) ks = ⟨us, ks.zip ws⟩ := by
  unfold argsOf
  rw [List.length_append, h, Nat.add_sub_cancel, List.take_left, List.drop_left]
theorem zip_nil_args (us : List Value) : (⟨us, ([] : List Str).zip ([] : List Value)⟩ : Args) = ⟨us, []⟩ := rfl
/-- behind a callee of the text -/
theorem run_g {f : Addr} {ks : List Str} {F : Fn} {pins : List (Addr × Obj)} {σ : L2.St} {H : Hp} {s : Shared} {Q : VK} {us ws : List Value} {vs zs : List V} {c : Ct} {r : En} {as : List Ar} {ds : List PyData} (C : Cok X cm sg tb gs k) (G : FnG X.prog X.w X.K X.mg X.base cm k f ks F)
    (hK : c.K = X.K) (hcm : c.cm = cm) (tk : Takes X c.W) (E : Er c H σ r) (I : Inv X pins σ H s) (r1 : Vals vs us) (r2 : Vals zs ws) (hl : ws.length = ks.length) (rA : RA c σ H r F.md (vs ++ zs) as) (hn : nodup (Ar.slots as) = true) (hd : datas r as = some ds)
    (h : Post c σ (rv c σ) r H Q (back r (Ar.slots as) (F.run ds))) : wpAny (model X.prog X.w) X.A (call (.ref f) us (ks.zip ws)) (EP X pins σ Q) X.xe s := by
  obtain ⟨a1, a2⟩ := aok_of E rA hd hn
  have hrun := G X.A X.stack s H (us ++ ws) (vs ++ zs) Q (fun cls dd H' => c.W cls dd σ H') (Av' c r) ds _ C.gd C.room I.env0 (r1.append r2) (by rw [← hK]; exact a1) (fun a h => E.free h) (by rw [List.length_append]; omega) (by
    cases q : F.run ds with
    | st => rw [q] at h; exact h.elim
    | ok fr d outs =>
      rw [q] at h
      intro v H' kp hv
      simp only [back] at h
      cases q2 : puts r (Ar.slots as) outs with
      | none => rw [q2] at h; exact h.elim
      | some r' =>
        rw [q2] at h
        cases fr with
        | true =>
          rw [if_pos rfl] at hv h
          obtain ⟨a, e1, w, p, na, oo⟩ := hv
          rw [← hK] at w oo
          obtain ⟨u, hu, _⟩ := w.some
          have k1 : Kp (fun b => b ∉ (Ar.slots as).map c.al) (upd H a u) H' := fun b o hb hq => by
            by_cases z : b = a
            · subst z; rw [upd_same] at hq; cases hq; exact hu
            · rw [upd_ne z] at hq; exact kp b o hb hq
          obtain ⟨E', up, av, _⟩ := puts_ok (c := c.off a) (Er.offn E na (Ext.new na) ⟨u, upd_same⟩) q2 a2 k1 (OOk.mono (fun b h => off_av.mpr h) oo) hn
          have E2 := E'.unoff
          have av2 : ∀ b, Av' c r b → Av' c r' b := fun b h => up.av h
          refine h v H' E2 (fun b o pb hb => kp b o (fun hm => ?_) hb) up ⟨⟨a, e1, w.mono (fun _ q => q) (Kp.refl _ _) fun b h => av2 b h.1, av2 a p, E.back0 na⟩, fun a' q' => ?_⟩
          · obtain ⟨j, hj, ej⟩ := List.mem_map.mp hm
            exact pb.2 j (a2 j hj) ej.symm
          · rw [e1] at q'; cases q'; exact ⟨E', w.mono (fun _ q => q) (Kp.refl _ _) fun b h => off_av.mpr ⟨av2 b h.1, h.2⟩⟩
        | false =>
          rw [if_neg Bool.false_ne_true] at hv h
          obtain ⟨hv, oo⟩ := hv
          rw [← hK] at oo hv
          obtain ⟨E', u, av, kp'⟩ := puts_ok E q2 a2 kp oo hn
          exact h v H' E' kp' u ⟨av_of_iff (fun a => (av a).symm) hv, trivial⟩
    | ex e outs =>
      rw [q] at h
      intro cls dd H' kp oo hx
      simp only [back] at h
      cases q2 : puts r (Ar.slots as) outs with
      | none => rw [q2] at h; exact h.elim
      | some r' =>
        rw [q2] at h
        rw [← hK] at oo
        obtain ⟨E', u, av, kp'⟩ := puts_ok E q2 a2 kp oo hn
        refine h cls dd H' E' ?_
        obtain ⟨x1, d, fs, x2, x3, x4⟩ := hx
        refine ⟨by rw [hcm]; exact x1, d, fs, x2, x3, ?_⟩
        rw [← hK] at x4
        clear x3 x1 h
        generalize e.fs = es at x4
        induction x4 with
        | nil => exact .nil
        | cons h _ ih => exact .cons (av_of_iff (fun a => (av a).symm) h) ih)
  rw [args_all hl] at hrun
  refine wpAny_call (codeAny_mono hrun fun res s' hq => ?_)
  cases res with
  | error e => exact tk e s' (XE.of_call I (fun cls d H' z => z) hq)
  | ok fl =>
    cases fl with
    | ret u => exact I.after hq
    | next => exact False.elim hq
    | brk => exact False.elim hq
    | cont => exact False.elim hq

theorem evm_len : ∀ {as : Es} {ms : List Bool} {r r' : En} {ar : List Ar}, evm tb as ms r = .ok ar r' → ar.length = as.len
  | .nil, [], r, r', ar, h => by cases h; rfl
  | .nil, _ :: _, r, r', ar, h => by cases h
  | .cons a as, [], r, r', ar, h => by cases h
  | .cons a as, false :: ms, r, r', ar, h => by
    unfold evm at h
    cases q : ev tb a r with
    | st => rw [q] at h; cases h
    | ex e r1 => rw [q] at h; cases h
    | ok x r1 =>
      rw [q] at h
      simp only [R.bind_ok] at h
      cases q2 : cap x r1 with
      | st => rw [q2] at h; cases h
      | ex e r1 => rw [q2] at h; cases h
      | ok d r2 =>
        rw [q2] at h
        simp only [R.bind_ok] at h
        cases q3 : evm tb as ms r2 with
        | st => rw [q3] at h; cases h
        | ex e r1 => rw [q3] at h; cases h
        | ok ds r3 =>
          rw [q3] at h
          cases h
          have := evm_len q3
          simp [Es.len, this]
  | .cons a as, true :: ms, r, r', ar, h => by
    unfold evm at h
    cases q : ev tb a r with
    | st => rw [q] at h; cases h
    | ex e r1 => rw [q] at h; cases h
    | ok x r1 =>
      rw [q] at h
      simp only [R.bind_ok] at h
      cases q3 : evm tb as ms r1 with
      | st => rw [q3] at h; cases h
      | ex e r1 => rw [q3] at h; cases h
      | ok ds r3 =>
        rw [q3] at h
        simp only [R.bind_ok] at h
        cases x <;> first | (cases h; done) | skip
        cases h
        have := evm_len q3
        simp [Es.len, this]
/-- f(e, .., x = g, ..) -/
theorem snd_call {j : Nat} {as bs : Es} {sj : Sig} {es : List Expr} {kws : List Keyword} {p pos : Pos} (C : Cok X cm sg tb gs k) (hs : sg[j]? = some sj) (ha : SndM X cm tb as es) (hb : SndKw X cm tb bs kws) (hg : Gl X sj.nm) (hdb : (sj.nm == ("__debug__" : Str)) = false)
    (hn : es.all notStar = true) (hall : kws.all (fun q => q.arg.isSome) = true) (hks : kws.filterMap (·.arg) = sj.ks) (hlb : bs.len = sj.ks.length) (h0 : es = [] → as = .nil) : Snd X cm tb (.call j as bs) (.Call (.Name sj.nm p) es kws pos) := by
  intro c r σ H Q hK hcm tk E h
  unfold ev at h
  cases hf : tb[j]? with
  | none => rw [hf] at h; exact h.elim
  | some F =>
    rw [hf] at h
    simp only at h
    obtain ⟨f, hm, hk, G⟩ := C.fn j sj F hs hf
    intro pins s I
    obtain ⟨k1, k2, k3⟩ := kw_names (env := X.env) (pos := pos) hall
    have hplain : ((backTo pos (starEach es X.env)).any (·.1) || (backToKw pos (keywordEach kws X.env)).any (·.1.isNone)) = false := by rw [plain_tail hn, k2]; rfl
    -- behind the positional ones
    have kwPart : ∀ (pins : List (Addr × Obj)) (s1 : Shared) (H1 : Hp) (us : List Value) (vs : List V) (r1 : En) (ar : List Ar), Inv X pins σ H1 s1 → Er c H1 σ r1 → Vals vs us → RA c σ H1 r1 (F.md.take as.len) vs ar →
        Post c σ (rv c σ) r1 H1 Q ((evm tb bs (F.md.drop as.len) r1).bind fun br r => callK F (ar ++ br) r) →
        wpAny (model X.prog X.w) X.A (evalAll ((backToKw pos (keywordEach kws X.env)).map (·.2))) (fun ws s2 => X.K.In s2.heap ∧ wpAny (model X.prog X.w) X.A (call (.ref f) ([] ++ us) (((backToKw pos (keywordEach kws X.env)).filterMap (·.1)).zip ws)) (EP X pins σ Q) X.xe s2) X.xe s1 := by
      intro pins s1 H1 us vs r1 ar I1 E1 v1 q1 h1
      have hB : SK X kws σ H1 (fun zs H2 => ∃ br r2, Er c H2 σ r2 ∧ RA c σ H2 r2 (F.md.take as.len) vs ar ∧ RA c σ H2 r2 (F.md.drop as.len) zs br ∧ br.length = bs.len ∧ Post c σ (rv c σ) r2 H2 Q (callK F (ar ++ br) r2)) :=
        hb _ c r1 σ H1 _ hK hcm tk E1 (h1.bind fun br r2 eb zs H2 E2 k2 u2 q2 h2 => ⟨br, r2, E2, RA.mono k2 u2 q1, q2, evm_len eb, h2⟩)
      refine thn (hB pos pins s1 I1) fun ws s2 ⟨zs, H2, I2, v2, br, r2, E2, a1, a2, lb, h2⟩ => ⟨I2.kIn, ?_⟩
      rw [k3, hks]
      unfold callK at h2
      split at h2
      · rename_i hnd
        obtain ⟨ds, hds, h3⟩ := h2.lift
        have rA := a1.append a2
        rw [List.take_append_drop] at rA
        have l2 := v2.length
        have l3 := a2.length
        exact run_g C G hK hcm tk E2 I2 v1 v2 (by omega) rA hnd hds h3
      · exact h2.elim
    refine wpAny_Call_Name_kw (ld_glob I hg hm ?_ hdb)
    cases es with
    | cons e es =>
      rw [List.all_cons, Bool.and_eq_true] at hn
      refine PySem.W.callWith_KW (h₀ := X.base) I.ok.mod.kin hk k1 ?_ hplain (nostar hn.1)
      have hA : SA X (e :: es) σ H (fun vs H1 => ∃ ar r1, Er c H1 σ r1 ∧ RA c σ H1 r1 (F.md.take as.len) vs ar ∧ Post c σ (rv c σ) r1 H1 Q ((evm tb bs (F.md.drop as.len) r1).bind fun br r => callK F (ar ++ br) r)) :=
        ha _ c r σ H _ hK hcm tk E (h.bind fun ar r1 _ vs H1 E1 k1 u1 q1 h1 => ⟨ar, r1, E1, q1, h1⟩)
      exact thn (hA pos pins s I) fun us s1 ⟨vs, H1, I1, v1, ar, r1, E1, q1, h1⟩ => kwPart pins s1 H1 us vs r1 ar I1 E1 v1 q1 h1
    | nil =>
      refine PySem.W.callWith_KW0 (h₀ := X.base) I.ok.mod.kin hk k1 ?_ hplain
      have e0 := h0 rfl
      subst e0
      have h1 : Post c σ (rv c σ) r H Q ((evm tb bs (F.md.drop 0) r).bind fun br r => callK F ([] ++ br) r) := by
        simpa [evm, Es.len] using h
      exact kwPart pins s H [] [] r [] I E .nil .nil h1
end
end Di
/-! (a, b, ..) = a list or a tuple of that length -/
namespace UL
open PySem PyProof.Rows
section
variable {prog : Program} {w : World} {A : Around} {E : Value → Shared → Prop} {s : Shared}
theorem ext_list {h h' : Heap} {l it : Addr} {items : Array Value} (hl : h.IsList l items) (hs : Heap.ExtBut it h h') (ne : l ≠ it) : h'.IsList l items := by
  obtain ⟨o, ho, r⟩ := hl
  exact ⟨o, hs l o ne ho, r⟩
theorem push_list {h : Heap} {l : Addr} {items : Array Value} {o : Obj} (hl : h.IsList l items) : (h.push o).IsList l items := by
  obtain ⟨o', ho, r⟩ := hl
  exact ⟨o', Heap.get?_push_of_some _ ho, r⟩
theorem draw_list {it t : Addr} {items : Array Value} (hne : t ≠ it) : ∀ (n i : Nat) (s : Shared) (Q : List Value → Shared → Prop), s.heap.IsListIter it t i → s.heap.IsList t items → i + n ≤ items.size →
    (∀ h', h'.IsListIter it t (i + n) → Heap.SameBut it s.heap h' → Q ((items.toList.drop i).take n) { s with heap := h' }) → wpAny (model prog w) A (draw (.ref it) n) Q E s
  | 0, i, s, Q, hit, _, _, hQ => by
    show wpAny _ _ (pure []) Q E s
    exact wpAny_pure (by simpa using hQ s.heap hit (Heap.SameBut.refl ..))
  | n + 1, i, s, Q, hit, ht, hle, hQ => by
    have hlt : i < items.size := by omega
    show wpAny _ _ (pyNext (.ref it) >>= _) Q E s
    refine wpAny_bind (wpAny_pyNext_list_item hit ht (x := items[i]) (by simp [hlt]) fun h₁ hit₁ hs₁ => ?_)
    refine wpAny_bind (wpAny_holding (draw_list hne n (i + 1) _ _ hit₁ (ext_list ht hs₁.extBut hne) (by omega) fun h₂ hit₂ hs₂ => wpAny_pure ?_))
    have hd : items.toList.drop i = items[i] :: items.toList.drop (i + 1) := by simp [List.drop_eq_getElem_cons, hlt]
    have := hQ h₂ (by rw [show i + (n + 1) = i + 1 + n by omega]; exact hit₂) (hs₁.trans hs₂)
    rw [hd, List.take_succ_cons] at this
    exact this
theorem unpackItems_list {t : Addr} {items : Array Value} {Q : List Value → Shared → Prop} (hh : A.handled = none) (ht : s.heap.IsList t items)
    (hQ : ∀ h', Heap.ExtBut s.heap.objs.size s.heap h' → Q items.toList { s with heap := h' }) : wpAny (model prog w) A (unpackItems (.ref t) items.size none) Q E s := by
  have hlt : t ≠ s.heap.objs.size := by obtain ⟨o, ho, _⟩ := ht; exact Nat.ne_of_lt (Heap.lt_size ho)
  unfold unpackItems
  refine wpAny_bind ?_
  · unfold notIterableAtAll
    refine wpAny_bind (wpAny_specialOf ht.typeIs slot_list_iter.lookup ?_)
    refine wpAny_pure ?_
    simp only [Bool.false_eq_true, if_false]
    refine wpAny_bind (wpAny_holding (wpAny_pyIter_list ht ?_))
    refine wpAny_bind (wpAny_holding (draw_list hlt items.size 0 _ _ ⟨_, Heap.get?_push_size _ rfl, rfl, rfl⟩ (push_list ht) (by omega) fun h₁ hit₁ hs₁ => ?_))
    have hall : List.take items.size (List.drop 0 items.toList) = items.toList := by
      rw [List.drop_zero]; exact List.take_of_length_le (by simp)
    rw [hall]
    rw [if_neg (by simp)]
    have ht₁ : h₁.IsList t items := ext_list (push_list ht) hs₁.extBut hlt
    refine wpAny_bind (wpAny_holding (wpAny_pyNext_list_end hh hit₁ ht₁ (by simp) fun h₂ he₂ => ?_))
    simp only [Option.isSome_none, Bool.false_eq_true, if_false]
    refine wpAny_pure (hQ h₂ fun b o hb e => he₂ b o hb (hs₁.extBut b o hb (Heap.get?_push_of_some _ e)))
theorem assign_Tuple_list {env : Env} {elts : List Expr} {x1} {pos : Pos} {t : Addr} {items : Array Value} {Q : Unit → Shared → Prop} (hh : A.handled = none) (ht : s.heap.IsList t items)
    (hn : (assignEach elts env).length = items.size) (hstar : (assignEach elts env).findIdx? (·.1) = none)
    (h : ∀ h', Heap.ExtBut s.heap.objs.size s.heap h' → wpAny (model prog w) A (assignInOrder ((assignEach elts env).map (·.2)) items.toList) Q E { s with heap := h' }) :
    wpAny (model prog w) A (assign (.Tuple elts x1 pos) env (.ref t)) Q E s := by
  rw [assign_Tuple]
  refine wpAny_bind (wpAny_standAt ?_)
  unfold unpack
  rw [hn, hstar]
  exact wpAny_bind (wpAny_holding (unpackItems_list hh ht h))
end
end UL
namespace Di
open PySem PySem.Spec PyProof.Rows L2
variable {X : Cx} {pos : Pos}
def gSeq (K : PySem.W.Frag) (n : Nat) (t : TGs) : TG := fun v σ H Q => ∃ a xs, v = .ref a ∧ (SqT K H a xs ∨ SqL K H a xs) ∧ xs.length = n ∧ t xs σ H Q
theorem pg_seq {es : List Expr} {k : Nat} {t : TGs} {n : Nat} (hc : X.calm = true) (h : PGs X es t)
    (hn : (assignEach es X.env).length = n := by rfl) (hst : (assignEach es X.env).findIdx? (·.1) = none := by rfl) : PG X (.Tuple es k pos) (gSeq X.K n t) := by
  refine ⟨fun pins s σ H v u Q I r hw => ?_⟩
  obtain ⟨a, xs, e1, hq, hl, hw⟩ := hw
  rcases hq with hq | hq
  · exact (pg_tup (pos := pos) hc h hn hst).run pins s σ H v u Q I r ⟨a, xs, e1, hq, hl, hw⟩
  · subst e1
    cases r
    obtain ⟨its, rv, pl, hz⟩ := I.list hq
    refine UL.assign_Tuple_list (I.ok.hd hc) pl.isList (by simp [hn, ← hl, rv.length]) hst fun h' hx => ?_
    have I1 : Inv X pins σ H { s with heap := h' } := I.kept (t' := s.toks) fun b o e => hx b o (Nat.ne_of_lt (Heap.lt_size e)) e
    exact h.run pins _ σ H xs _ Q I1 (by simpa using rv) hw
end Di
/-! enumerate over a list, a tuple, a zip. -/
namespace EZ
open PySem PySem.Spec PyProof.Rows L2
/-- an iterator that is drawn from within: its cells fp; what it gives -/
structure Feed (P : Program) (w : World) (A : Around) (it : Addr) (fp ch : List Addr) (n : Nat) (Y : Nat → Nat → Value → Heap → Prop) (St : Nat → Heap → Prop) : Prop where
  frame : ∀ i h h', St i h → (∀ b ∈ fp, ∀ o, h.get? b = some o → h'.get? b = some o) → St i h'
  mem : it ∈ fp
  sub : ∀ b ∈ ch, b ∈ fp
  there : ∀ i h, St i h → ∀ b ∈ fp, ∃ o, h.get? b = some o ∧ ∀ v, o.data ≠ .cell v
  yes : ∀ i m v h h', Y i m v h → (∀ b o, m ≤ b → h.get? b = some o → h'.get? b = some o) → Y i m v h'
  item : ∀ i (s : Shared) (Q : Value → Shared → Prop) (E : Value → Shared → Prop), i < n → St i s.heap →
    (∀ x h' tk, St (i + 1) h' → s.heap.objs.size ≤ h'.objs.size → (∀ b o, b ∉ ch → s.heap.get? b = some o → h'.get? b = some o) → Y i s.heap.objs.size x h' → Q x { s with heap := h', toks := tk }) → wpAny (model P w) A (Builtin.SmallTypes.nextOf (.ref it)) Q E s
  done : ∀ i (s : Shared) (Q : Value → Shared → Prop) (E : Value → Shared → Prop), n ≤ i → St i s.heap →
    (∀ h' tk e, (∀ b o, b ∉ ch → s.heap.get? b = some o → h'.get? b = some o) → (∃ o, h'.get? e = some o ∧ o.cls = .type "StopIteration") → E (.ref e) { s with heap := h', toks := tk }) → wpAny (model P w) A (Builtin.SmallTypes.nextOf (.ref it)) Q E s
section
variable {P : Program} {w : World} {A : Around} {E : Value → Shared → Prop} {s : Shared} {u it : Addr} {fp ch : List Addr} {n i : Nat} {Y : Nat → Nat → Value → Heap → Prop} {St : Nat → Heap → Prop}
theorem en_item (F : Feed P w A it fp ch n Y St) {c : Int} {old : Value} (he : IsEnum s.heap u it c old) (st : St i s.heap) (lt : i < n) (off : u ∉ fp) {Q : Value → Shared → Prop}
    (hQ : ∀ x h' tk T, Y i s.heap.objs.size x h' → IsEnumOut h' u it (c + 1) x T → St (i + 1) h' → h'.get? T = some { cls := .type "tuple", data := .seq #[.int c tk, x] } → s.heap.objs.size ≤ T → (∃ hm : Heap, Y i s.heap.objs.size x hm ∧ T = hm.objs.size) →
      (∀ b o, b ≠ u → b ∉ ch → s.heap.get? b = some o → h'.get? b = some o) → Q (.ref T) { s with heap := h', toks := tk + 1 }) :
    wpAny (model P w) A (Builtin.«enumerate.__next__» ⟨[.ref u], []⟩) (fun r s' => ∃ v, r = .done (.ret v) ∧ Q v s') E s := by
  obtain ⟨hp, gg, dd, tk0, os⟩ := s
  have ult : u < hp.objs.size := Heap.lt_size he
  show wpAny _ _ (field (.ref u) 2 >>= _) _ _ _
  refine wpAny_bind (wpAny_field he rfl (x := .ref it) rfl (wpAny_bind (F.item i _ _ _ lt st fun x h1 tk st1 z1 k1 y1 => ?_)))
  have e1 : IsEnum h1 u it c old := k1 u _ (fun q => off (F.sub _ q)) he
  have ult1 : u < h1.objs.size := Nat.lt_of_lt_of_le ult z1
  show wpAny _ _ (field (.ref u) 3 >>= _) _ _ ⟨h1, gg, dd, tk, os⟩
  refine wpAny_bind (wpAny_field e1 rfl (x := rawInt c) rfl ?_)
  show wpAny _ _ (field (.ref u) 4 >>= _) _ _ ⟨h1, gg, dd, tk, os⟩
  refine wpAny_bind (wpAny_field e1 rfl (x := .none) rfl ?_)
  show wpAny _ _ (mkInt c >>= _) _ _ ⟨h1, gg, dd, tk, os⟩
  refine wpAny_bind (wpAny_mkInt ?_)
  show wpAny _ _ (setField (.ref u) 3 (rawInt (c + 1)) >>= _) _ _ ⟨h1, gg, dd, tk + 1, os⟩
  refine wpAny_bind (wpAny_setField_rec e1 (by simp) fun h2 e2 b2 => ?_)
  replace e2 : IsEnum h2 u it (c + 1) old := e2
  replace b2 : Heap.SameBut u h1 h2 := b2
  show wpAny _ _ (setField (.ref u) 4 .none >>= _) _ _ ⟨h2, gg, dd, tk + 1, os⟩
  refine wpAny_bind (wpAny_setField_rec e2 (by simp) fun h3 e3 b3 => ?_)
  replace e3 : IsEnum h3 u it (c + 1) old := e3
  replace b3 : Heap.SameBut u h2 h3 := b3
  show wpAny _ _ (newTuple [.int c tk, x] >>= _) _ _ ⟨h3, gg, dd, tk + 1, os⟩
  refine wpAny_bind (wpAny_newTuple ?_)
  have e4 : IsEnum (h3.push { cls := .type "tuple", data := .seq #[.int c tk, x] }) u it (c + 1) old := Heap.get?_push_of_some _ e3
  have z3 : h3.objs.size = h1.objs.size := by rw [b3.1, b2.1]
  have t4 : (h3.push { cls := .type "tuple", data := .seq #[.int c tk, x] }).get? h3.objs.size = some { cls := .type "tuple", data := .seq #[.int c tk, x] } := Heap.get?_push_size _ rfl
  have k4 : ∀ b o, b ≠ u → h1.get? b = some o → (h3.push { cls := .type "tuple", data := .seq #[.int c tk, x] }).get? b = some o := fun b o nb q => Heap.get?_push_of_some _ (b3.extBut b o nb (b2.extBut b o nb q))
  show wpAny _ _ (Builtin.SmallTypes.ownedTupleIsFree (.ref u) >>= _) _ _ ⟨h3.push { cls := .type "tuple", data := .seq #[.int c tk, x] }, gg, dd, tk + 1, os⟩
  generalize h3.push { cls := .type "tuple", data := .seq #[.int c tk, x] } = h4 at e4 t4 k4 ⊢
  rw [z3] at t4 ⊢
  have une : ∀ b, h1.objs.size ≤ b → b ≠ u := fun b q z => by rw [z] at q; exact absurd ult1 (Nat.not_lt_of_le q)
  refine wpAny_bind ?_
  unfold Builtin.SmallTypes.ownedTupleIsFree
  refine wpAny_bind (wpAny_field e4 rfl (x := .none) rfl (wpAny_pure ?_))
  simp only [if_true]
  refine wpAny_bind (wpAny_rule (wpAny_bind (wpAny_field e4 rfl (x := old) rfl ?_)))
  refine wpAny_bind (wpAny_setField_rec e4 (by simp) fun h5 e5 b5 => ?_)
  replace e5 : IsEnum h5 u it (c + 1) x := e5
  replace b5 : Heap.SameBut u h4 h5 := b5
  show wpAny _ _ (Builtin.SmallTypes.ownedTupleHandOut (.ref u) (.ref h1.objs.size) >>= _) _ _ ⟨h5, gg, dd, tk + 1, os⟩
  refine wpAny_bind ?_
  unfold Builtin.SmallTypes.ownedTupleHandOut
  refine wpAny_bind (wpAny_setField_rec e5 (by simp) fun h6 e6 b6 => ?_)
  replace e6 : IsEnumOut h6 u it (c + 1) x h1.objs.size := e6
  replace b6 : Heap.SameBut u h5 h6 := b6
  refine wpAny_setField_rec e6 (by simp) fun h7 e7 b7 => ?_
  replace e7 : IsEnumOut h7 u it (c + 1) x h1.objs.size := e7
  replace b7 : Heap.SameBut u h6 h7 := b7
  have k7 : ∀ b o, b ≠ u → h4.get? b = some o → h7.get? b = some o := fun b o nb q => b7.extBut b o nb (b6.extBut b o nb (b5.extBut b o nb q))
  refine wpAny_bind (wpAny_letGo (wpAny_pure ⟨_, rfl, ?_⟩))
  refine hQ x h7 tk h1.objs.size (F.yes _ _ _ _ _ y1 fun b o q g => ?_) e7 (F.frame _ _ _ st1 fun b mb o g => ?_) ?_ z1 ⟨h1, y1, rfl⟩ fun b o nb nf g => ?_
  · have nb : b ≠ u := fun z => by rw [z] at q; exact absurd ult (Nat.not_lt_of_le q)
    exact k7 b o nb (k4 b o nb g)
  · have nb : b ≠ u := fun z => off (z ▸ mb)
    exact k7 b o nb (k4 b o nb g)
  · exact k7 _ _ (une _ (Nat.le_refl _)) t4
  · exact k7 b o nb (k4 b o nb (k1 b o nf g))
theorem nx_item (F : Feed P w A.in1 it fp ch n Y St) {c : Int} {old : Value} (he : IsEnum s.heap u it c old) (st : St i s.heap) (lt : i < n) (off : u ∉ fp) {Q : Option Value → Shared → Prop}
    (hQ : ∀ x h' tk T, Y i s.heap.objs.size x h' → IsEnumOut h' u it (c + 1) x T → St (i + 1) h' → h'.get? T = some { cls := .type "tuple", data := .seq #[.int c tk, x] } → s.heap.objs.size ≤ T → (∃ hm : Heap, Y i s.heap.objs.size x hm ∧ T = hm.objs.size) →
      (∀ b o, b ≠ u → b ∉ ch → s.heap.get? b = some o → h'.get? b = some o) → Q (some (.ref T)) { s with heap := h', toks := tk + 1 }) : wpAny (model P w) A (pyNext (.ref u)) Q E s := by
  have ty : s.TypeIs (.ref u) "enumerate" := ⟨_, he, rfl⟩
  unfold pyNext
  exact wpAny_bind (wpAny_attempt (wpAny_callSpecial?_slot (name := Str.ofString "__next__") ty PySem.F.slot_enumerate_next
    (wpAny_call_entry PySem.F.slot_enumerate_next ty PySem.F.entry_enumerate_next (en_item F he st lt off fun x h' tk T a b c d e g f => wpAny_pure (hQ x h' tk T a b c d e g f)) (PySem.F.args_enumerate_next_1 _))))
theorem nx_done (F : Feed P w A.in1 it fp ch n Y St) {c : Int} {old : Value} (he : IsEnum s.heap u it c old) (st : St i s.heap) (ge : n ≤ i) {Q : Option Value → Shared → Prop}
    (hQ : ∀ h' tk, (∀ b o, b ∉ ch → s.heap.get? b = some o → h'.get? b = some o) → Q none { s with heap := h', toks := tk }) : wpAny (model P w) A (pyNext (.ref u)) Q E s := by
  have ty : s.TypeIs (.ref u) "enumerate" := ⟨_, he, rfl⟩
  unfold pyNext
  refine wpAny_bind (wpAny_attempt (wpAny_callSpecial?_slot (name := Str.ofString "__next__") ty PySem.F.slot_enumerate_next
    (wpAny_call_entry PySem.F.slot_enumerate_next ty PySem.F.entry_enumerate_next ?_ (PySem.F.args_enumerate_next_1 _))))
  show wpAny _ _ (field (.ref u) 2 >>= _) _ _ _
  refine wpAny_bind (wpAny_field he rfl (x := .ref it) rfl (wpAny_bind (F.done i _ _ _ ge st fun h' tk e k hs => ?_)))
  obtain ⟨o, ho, hcl⟩ := hs
  refine wpAny_bind (wpAny_isInstance (T := "StopIteration") (b := true) ⟨o, ho, hcl⟩ isSubtype_stop ?_)
  exact wpAny_pure (hQ _ _ k)
/-- lists and tuples feed -/
theorem feed_of (D : Draws P w A it fp n (fun i v => Y i 0 v (default : Heap)) St) (hy : ∀ i m v h, Y i m v h ↔ Y i 0 v default) (mem : it ∈ fp) (th : ∀ i h, St i h → ∀ b ∈ fp, ∃ o, h.get? b = some o ∧ ∀ v, o.data ≠ .cell v) (down : ∀ i h, n ≤ i → St i h → St n h) : Feed P w A it fp [it] n Y St where
  frame := D.frame
  mem := mem
  sub := fun b hb => by cases List.mem_singleton.mp hb; exact mem
  there := th
  yes := fun i m v h h' y _ => (hy _ _ _ _).mpr ((hy _ _ _ _).mp y)
  item := fun i s Q E lt st hQ => D.item i s Q E lt st fun x h' tk px st' sb => hQ x h' tk st' (by rw [sb.1]; exact Nat.le_refl _) (fun b o nb g => sb.extBut b o (fun z => nb (z ▸ List.mem_singleton.mpr rfl)) g) ((hy _ _ _ _).mpr px)
  done := fun i s Q E ge st hQ => D.done s Q E (down i _ ge st) fun h' e k hs => hQ h' s.toks e (fun b o nb g => k b o (fun z => nb (z ▸ List.mem_singleton.mpr rfl)) g) hs
end
end EZ
namespace EZ
open PySem PySem.Spec PyProof.Rows L2
/-- a zip, whatever has become of its tuple -/
def Zst (h : Heap) (z TI TO : Addr) : Prop := ∃ (f0 : Value) (fl : Bool), h.get? z = some { cls := .type "zip", dict := none, data := .fields #[f0, .bool fl, .bool false, .ref TI, .ref TO], slots := #[] } ∧ (f0 = .none ∨ ∃ T : Addr, f0 = rawInt (T : Int))
section
variable {P : Program} {w : World} {A : Around} {E : Value → Shared → Prop} {s : Shared} {z TI TO i1 i2 : Addr} {fp1 fp2 : List Addr} {n1 n2 i : Nat} {P1 P2 : Nat → Value → Prop} {St1 St2 : Nat → Heap → Prop}
theorem alive_ok {M : Model} {a : Addr} {Q : Option Obj → Shared → Prop} (h : Q (s.heap.get? a) s) : wpAny M A (loadIfAlive a) Q E s := fun Γ p _ => by
  unfold loadIfAlive
  rw [Sem.wp_loadIfAlive]
  exact h
/-- is the zip's tuple free; where it is held that is noted -/
theorem free_ok {f0 : Value} {fl : Bool} (hz : s.heap.get? z = some { cls := .type "zip", dict := none, data := .fields #[f0, .bool fl, .bool false, .ref TI, .ref TO], slots := #[] }) (h0 : f0 = .none ∨ ∃ T : Addr, f0 = rawInt (T : Int)) {Q : Bool → Shared → Prop}
    (h1 : Q true s) (h2 : ∀ h', Heap.SameBut z s.heap h' → h'.get? z = some { cls := .type "zip", dict := none, data := .fields #[f0, .bool true, .bool false, .ref TI, .ref TO], slots := #[] } → Q false { s with heap := h' }) :
    wpAny (model P w) A (Builtin.SmallTypes.ownedTupleIsFree (.ref z)) Q E s := by
  unfold Builtin.SmallTypes.ownedTupleIsFree
  rcases h0 with rfl | ⟨T, rfl⟩
  · exact wpAny_bind (wpAny_field hz rfl (x := .none) rfl (wpAny_pure h1))
  · refine wpAny_bind (wpAny_field hz rfl (x := rawInt T) rfl ?_)
    show wpAny _ _ (loadIfAlive ((T : Int).toNat) >>= _) _ _ _
    rw [Int.toNat_natCast]
    refine wpAny_bind (alive_ok ?_)
    cases s.heap.get? T with
    | none =>
      simp only [Option.isNone_none, if_true]
      exact wpAny_pure h1
    | some o =>
      simp only [Option.isNone_some, Bool.false_eq_true, if_false]
      refine wpAny_bind (wpAny_field hz rfl (x := .bool fl) rfl ?_)
      cases fl with
      | true =>
        rw [if_neg (show ¬ ((Value.bool true != Value.bool true) = true) from Bool.false_ne_true)]
        exact wpAny_pure (h2 s.heap (Heap.SameBut.refl _ _) hz)
      | false =>
        rw [if_pos (show (Value.bool false != Value.bool true) = true from rfl)]
        exact wpAny_bind (wpAny_setField_rec hz (by simp) fun h' g b => wpAny_pure (h2 h' b g))
theorem zn_item (S : ZipSep2 z TI TO i1 i2 fp1 fp2) (D1 : Draws P w A i1 fp1 n1 P1 St1) (D2 : Draws P w A i2 fp2 n2 P2 St2) (hz : Zst s.heap z TI TO) (hTI : IsTupOf2 s.heap TI (.ref i1) (.ref i2)) (hTO : ∃ a1 a2, IsTupOf2 s.heap TO a1 a2)
    (st1 : St1 i s.heap) (st2 : St2 i s.heap) (lt1 : i < n1) (lt2 : i < n2) {Q : Value → Shared → Prop}
    (hQ : ∀ x1 x2 h' tk T, P1 i x1 → P2 i x2 → Zst h' z TI TO → (∃ a1 a2, IsTupOf2 h' TO a1 a2) → St1 (i + 1) h' → St2 (i + 1) h' → IsTupOf2 h' T x1 x2 → s.heap.objs.size ≤ T → s.heap.objs.size ≤ h'.objs.size →
      (∀ c o, c ≠ z → c ≠ TO → c ≠ i1 → c ≠ i2 → s.heap.get? c = some o → h'.get? c = some o) → Q (.ref T) { s with heap := h', toks := tk }) :
    wpAny (model P w) A (Builtin.«zip.__next__» ⟨[.ref z], []⟩) (fun r s' => ∃ v, r = .done (.ret v) ∧ Q v s') E s := by
  obtain ⟨f0, fl, hz, h0⟩ := hz
  obtain ⟨b1, b2, hTO⟩ := hTO
  obtain ⟨hp, gg, dd, tk0, os⟩ := s
  have zlt : z < hp.objs.size := Heap.lt_size hz
  show wpAny _ _ (field (.ref z) 2 >>= fun _ => _) _ _ _
  refine wpAny_bind (wpAny_field hz rfl (x := .bool false) rfl ?_)
  show wpAny _ _ (field (.ref z) 3 >>= fun _ => _) _ _ _
  refine wpAny_bind (wpAny_field hz rfl (x := .ref TI) rfl (wpAny_bind (wpAny_seqItems hTI rfl ?_)))
  show wpAny _ _ (Builtin.SmallTypes.ownedTupleIsFree (.ref z) >>= fun _ => _) _ _ _
  refine wpAny_bind (free_ok hz h0 ?_ fun q0 sq0 hz0 => ?_)
  · simp only [if_true]
    refine wpAny_bind (wpAny_rule (wpAny_bind (wpAny_field hz rfl (x := .ref TO) rfl ?_)))
    refine wpAny_bind (wpAny_setField_rec hz (by simp) fun q0 hz0 sq0 => ?_)
    replace hz0 : q0.get? z = some { cls := .type "zip", dict := none, data := .fields #[.ellipsis, .bool fl, .bool false, .ref TI, .ref TO], slots := #[] } := hz0
    replace sq0 : Heap.SameBut z hp q0 := sq0
    refine wpAny_bind ?_
    simp only [List.zipIdx_cons, List.zipIdx_nil, List.forIn_cons, List.forIn_nil]
    refine wpAny_bind (wpAny_bind (wpAny_onRaise ?_))
    show wpAny _ _ (Builtin.SmallTypes.nextOf (.ref i1) >>= fun _ => _) _ _ ⟨q0, gg, dd, tk0, os⟩
    refine wpAny_bind (D1.item i _ _ _ lt1 (D1.over st1 sq0 S.zf1) fun x1 p1 tk1 y1 sn1 sp1 => wpAny_pure ?_)
    replace sp1 : Heap.SameBut i1 q0 p1 := sp1
    have U1 : IsTupOf2 p1 TO b1 b2 := sp1.extBut _ _ S.Ti1 (sq0.extBut _ _ S.TOz hTO)
    refine wpAny_bind (wpAny_seqItems (s := ⟨p1, gg, dd, tk1, os⟩) U1 rfl (wpAny_bind (updateSeq_IsTupOf2 (s := ⟨p1, gg, dd, tk1, os⟩) U1 fun q1 T1 sq1 => ?_)))
    replace T1 : IsTupOf2 q1 TO x1 b2 := T1
    replace sq1 : Heap.SameBut TO p1 q1 := sq1
    refine wpAny_bind (wpAny_letGo (wpAny_pure (wpAny_bind (wpAny_bind (wpAny_onRaise ?_)))))
    show wpAny _ _ (Builtin.SmallTypes.nextOf (.ref i2) >>= fun _ => _) _ _ ⟨q1, gg, dd, tk1, os⟩
    refine wpAny_bind (D2.item i _ _ _ lt2 (D2.over (D2.over (D2.over st2 sq0 S.zf2) sp1 S.sep1_2) sq1 S.Tf2) fun x2 p2 tk2 y2 sn2 sp2 => wpAny_pure ?_)
    replace sp2 : Heap.SameBut i2 q1 p2 := sp2
    have U2 : IsTupOf2 p2 TO x1 b2 := sp2.extBut _ _ S.Ti2 T1
    refine wpAny_bind (wpAny_seqItems (s := ⟨p2, gg, dd, tk2, os⟩) U2 rfl (wpAny_bind (updateSeq_IsTupOf2 (s := ⟨p2, gg, dd, tk2, os⟩) U2 fun q2 T2 sq2 => ?_)))
    replace T2 : IsTupOf2 q2 TO x1 x2 := T2
    replace sq2 : Heap.SameBut TO p2 q2 := sq2
    refine wpAny_bind (wpAny_letGo (wpAny_pure (wpAny_pure (wpAny_bind (wpAny_seqItems (s := ⟨q2, gg, dd, tk2, os⟩) T2 rfl (wpAny_bind (wpAny_newTuple ?_)))))))
    have sz : q2.objs.size = hp.objs.size := by rw [sq2.1, sp2.1, sq1.1, sp1.1, sq0.1]
    have zz : q2.get? z = some { cls := .type "zip", dict := none, data := .fields #[.ellipsis, .bool fl, .bool false, .ref TI, .ref TO], slots := #[] } := sq2.extBut _ _ S.TOz.symm (sp2.extBut _ _ S.zi2 (sq1.extBut _ _ S.TOz.symm (sp1.extBut _ _ S.zi1 hz0)))
    have kk : ∀ c o, c ≠ z → c ≠ TO → c ≠ i1 → c ≠ i2 → hp.get? c = some o → q2.get? c = some o := fun c o a b c1 c2 e => sq2.extBut _ _ b (sp2.extBut _ _ c2 (sq1.extBut _ _ b (sp1.extBut _ _ c1 (sq0.extBut _ _ a e))))
    have j1 : St1 (i + 1) q2 := D1.over (D1.over (D1.over sn1 sq1 S.Tf1) sp2 S.sep2_1) sq2 S.Tf1
    have j2 : St2 (i + 1) q2 := D2.over sn2 sq2 S.Tf2
    have zl2 : z < q2.objs.size := Heap.lt_size zz
    have tz : q2.objs.size ≠ z := Nat.ne_of_gt zl2
    show wpAny _ _ (Builtin.SmallTypes.ownedTupleHandOut (.ref z) (.ref q2.objs.size) >>= fun _ => _) _ _ ⟨q2.push { cls := .type "tuple", data := .seq #[x1, x2] }, gg, dd, tk2, os⟩
    have zz6 := Heap.get?_push_of_some ({ cls := .type "tuple", data := .seq #[x1, x2] } : Obj) zz
    have tt6 : (q2.push { cls := .type "tuple", data := .seq #[x1, x2] }).get? q2.objs.size = some { cls := .type "tuple", data := .seq #[x1, x2] } := Heap.get?_push_size _ rfl
    have kk6 : ∀ c o, q2.get? c = some o → (q2.push { cls := .type "tuple", data := .seq #[x1, x2] }).get? c = some o := fun c o e => Heap.get?_push_of_some _ e
    have sz6 : (q2.push { cls := .type "tuple", data := .seq #[x1, x2] }).objs.size = q2.objs.size + 1 := Heap.size_push ..
    generalize q2.push { cls := .type "tuple", data := .seq #[x1, x2] } = q6 at zz6 tt6 kk6 sz6 ⊢
    unfold Builtin.SmallTypes.ownedTupleHandOut
    refine wpAny_bind (wpAny_bind (wpAny_setField_rec zz6 (by simp) fun q7 zz7 sq7 => ?_))
    replace zz7 : q7.get? z = some { cls := .type "zip", dict := none, data := .fields #[rawInt q2.objs.size, .bool fl, .bool false, .ref TI, .ref TO], slots := #[] } := zz7
    replace sq7 : Heap.SameBut z q6 q7 := sq7
    refine wpAny_setField_rec zz7 (by simp) fun q8 zz8 sq8 => ?_
    replace zz8 : q8.get? z = some { cls := .type "zip", dict := none, data := .fields #[rawInt q2.objs.size, .bool false, .bool false, .ref TI, .ref TO], slots := #[] } := zz8
    replace sq8 : Heap.SameBut z q7 q8 := sq8
    have up : ∀ c o, c ≠ z → q6.get? c = some o → q8.get? c = some o := fun c o c1 e => sq8.extBut _ _ c1 (sq7.extBut _ _ c1 e)
    refine wpAny_pure ⟨_, rfl, ?_⟩
    refine hQ x1 x2 q8 tk2 q2.objs.size y1 y2 ⟨_, _, zz8, .inr ⟨_, rfl⟩⟩ ⟨_, _, up _ _ S.TOz (kk6 _ _ T2)⟩ (D1.frame _ _ _ j1 fun b mb o e => up b o (fun q => S.zf1 (q ▸ mb)) (kk6 _ _ e)) (D2.frame _ _ _ j2 fun b mb o e => up b o (fun q => S.zf2 (q ▸ mb)) (kk6 _ _ e)) (up _ _ tz tt6) (by rw [sz]; exact Nat.le_refl _) ?_ fun c o a b c1 c2 e => up c o a (kk6 _ _ (kk c o a b c1 c2 e))
    show hp.objs.size ≤ q8.objs.size
    rw [sq8.1, sq7.1, sz6, sz]
    exact Nat.le_succ _
  · simp only [Bool.false_eq_true, if_false]
    replace sq0 : Heap.SameBut z hp q0 := sq0
    replace hz0 : q0.get? z = some { cls := .type "zip", dict := none, data := .fields #[f0, .bool true, .bool false, .ref TI, .ref TO], slots := #[] } := hz0
    refine wpAny_bind ?_
    rw [← Array.forIn_toList]
    simp only [List.forIn_cons, List.forIn_nil]
    refine wpAny_bind (wpAny_bind (wpAny_holding ?_))
    show wpAny _ _ (Builtin.SmallTypes.nextOf (.ref i1) >>= fun _ => _) _ _ ⟨q0, gg, dd, tk0, os⟩
    refine wpAny_bind (D1.item i _ _ _ lt1 (D1.over st1 sq0 S.zf1) fun x1 p1 tk1 y1 sn1 sp1 => wpAny_pure (wpAny_pure ?_))
    replace sp1 : Heap.SameBut i1 q0 p1 := sp1
    refine wpAny_bind (wpAny_bind (wpAny_holding ?_))
    show wpAny _ _ (Builtin.SmallTypes.nextOf (.ref i2) >>= fun _ => _) _ _ ⟨p1, gg, dd, tk1, os⟩
    refine wpAny_bind (D2.item i _ _ _ lt2 (D2.over (D2.over st2 sq0 S.zf2) sp1 S.sep1_2) fun x2 p2 tk2 y2 sn2 sp2 => wpAny_pure (wpAny_pure (wpAny_pure ?_)))
    replace sp2 : Heap.SameBut i2 p1 p2 := sp2
    show wpAny _ _ (newTuple [x1, x2] >>= fun _ => _) _ _ ⟨p2, gg, dd, tk2, os⟩
    refine wpAny_bind (wpAny_newTuple (wpAny_pure ⟨_, rfl, ?_⟩))
    have sz : p2.objs.size = hp.objs.size := by rw [sp2.1, sp1.1, sq0.1]
    have zz : p2.get? z = some { cls := .type "zip", dict := none, data := .fields #[f0, .bool true, .bool false, .ref TI, .ref TO], slots := #[] } := sp2.extBut _ _ S.zi2 (sp1.extBut _ _ S.zi1 hz0)
    refine hQ x1 x2 _ tk2 p2.objs.size y1 y2 ⟨_, _, Heap.get?_push_of_some _ zz, h0⟩ ⟨b1, b2, Heap.get?_push_of_some _ (sp2.extBut _ _ S.Ti2 (sp1.extBut _ _ S.Ti1 (sq0.extBut _ _ S.TOz hTO)))⟩ (D1.frame _ _ _ (D1.over sn1 sp2 S.sep2_1) fun b mb o e => Heap.get?_push_of_some _ e) (D2.frame _ _ _ sn2 fun b mb o e => Heap.get?_push_of_some _ e) (Heap.get?_push_size _ rfl) (by rw [sz]; exact Nat.le_refl _) ?_ fun c o a b c1 c2 e => Heap.get?_push_of_some _ (sp2.extBut _ _ c2 (sp1.extBut _ _ c1 (sq0.extBut _ _ a e)))
    show hp.objs.size ≤ (p2.push _).objs.size
    rw [Heap.size_push, sz]
    exact Nat.le_succ _
end
end EZ
namespace EZ
open PySem PySem.Spec PyProof.Rows L2
section
variable {P : Program} {w : World} {A : Around} {E : Value → Shared → Prop} {s : Shared} {z TI TO i1 i2 : Addr} {fp1 fp2 : List Addr} {n1 n2 i : Nat} {P1 P2 : Nat → Value → Prop} {St1 St2 : Nat → Heap → Prop}
theorem zn_done (S : ZipSep2 z TI TO i1 i2 fp1 fp2) (D1 : Draws P w A i1 fp1 n1 P1 St1) (D2 : Draws P w A i2 fp2 n2 P2 St2) (hz : Zst s.heap z TI TO) (hTI : IsTupOf2 s.heap TI (.ref i1) (.ref i2)) (hTO : ∃ a1 a2, IsTupOf2 s.heap TO a1 a2)
    (st1 : St1 i s.heap) (st2 : St2 i s.heap) (le1 : i ≤ n1) (le2 : i ≤ n2) (fin : i = n1 ∨ i = n2) {Q : Fin → Shared → Prop}
    (hE : ∀ h' tk e, (∀ c o, c ≠ z → c ≠ TO → c ≠ i1 → c ≠ i2 → s.heap.get? c = some o → h'.get? c = some o) → (∃ o, h'.get? e = some o ∧ o.cls = .type "StopIteration") → E (.ref e) { s with heap := h', toks := tk }) :
    wpAny (model P w) A (Builtin.«zip.__next__» ⟨[.ref z], []⟩) Q E s := by
  obtain ⟨f0, fl, hz, h0⟩ := hz
  obtain ⟨b1, b2, hTO⟩ := hTO
  obtain ⟨hp, gg, dd, tk0, os⟩ := s
  show wpAny _ _ (field (.ref z) 2 >>= fun _ => _) _ _ _
  refine wpAny_bind (wpAny_field hz rfl (x := .bool false) rfl ?_)
  show wpAny _ _ (field (.ref z) 3 >>= fun _ => _) _ _ _
  refine wpAny_bind (wpAny_field hz rfl (x := .ref TI) rfl (wpAny_bind (wpAny_seqItems hTI rfl ?_)))
  show wpAny _ _ (Builtin.SmallTypes.ownedTupleIsFree (.ref z) >>= fun _ => _) _ _ _
  refine wpAny_bind (free_ok hz h0 ?_ fun q0 sq0 hz0 => ?_)
  · simp only [if_true]
    refine wpAny_bind (wpAny_rule (wpAny_bind (wpAny_field hz rfl (x := .ref TO) rfl ?_)))
    refine wpAny_bind (wpAny_setField_rec hz (by simp) fun q0 hz0 sq0 => ?_)
    replace hz0 : q0.get? z = some { cls := .type "zip", dict := none, data := .fields #[.ellipsis, .bool fl, .bool false, .ref TI, .ref TO], slots := #[] } := hz0
    replace sq0 : Heap.SameBut z hp q0 := sq0
    refine wpAny_bind ?_
    simp only [List.zipIdx_cons, List.zipIdx_nil, List.forIn_cons, List.forIn_nil]
    refine wpAny_bind (wpAny_bind (wpAny_onRaise ?_))
    show wpAny _ _ (Builtin.SmallTypes.nextOf (.ref i1) >>= fun _ => _) _ _ ⟨q0, gg, dd, tk0, os⟩
    by_cases lt1 : i < n1
    · refine wpAny_bind (D1.item i _ _ _ lt1 (D1.over st1 sq0 S.zf1) fun x1 p1 tk1 y1 sn1 sp1 => wpAny_pure ?_)
      replace sp1 : Heap.SameBut i1 q0 p1 := sp1
      have U1 : IsTupOf2 p1 TO b1 b2 := sp1.extBut _ _ S.Ti1 (sq0.extBut _ _ S.TOz hTO)
      refine wpAny_bind (wpAny_seqItems (s := ⟨p1, gg, dd, tk1, os⟩) U1 rfl (wpAny_bind (updateSeq_IsTupOf2 (s := ⟨p1, gg, dd, tk1, os⟩) U1 fun q1 T1 sq1 => ?_)))
      replace T1 : IsTupOf2 q1 TO x1 b2 := T1
      replace sq1 : Heap.SameBut TO p1 q1 := sq1
      refine wpAny_bind (wpAny_letGo (wpAny_pure ?_))
      have e2 : i = n2 := by omega
      refine wpAny_bind (wpAny_bind (wpAny_onRaise ?_))
      show wpAny _ _ (Builtin.SmallTypes.nextOf (.ref i2) >>= fun _ => _) _ _ ⟨q1, gg, dd, tk1, os⟩
      refine wpAny_bind (D2.done ⟨q1, gg, dd, tk1, os⟩ _ _ (by rw [← e2]; exact (D2.over (D2.over (D2.over st2 sq0 S.zf2) sp1 S.sep1_2) sq1 S.Tf2)) fun q e hq he => ?_)
      replace hq : Heap.ExtBut i2 q1 q := hq
      obtain ⟨oe, hoe, hce⟩ := he
      replace hoe : q.get? e = some oe := hoe
      have hzq := hq _ _ S.zi2 (sq1.extBut _ _ S.TOz.symm (sp1.extBut _ _ S.zi1 hz0))
      have hez : e ≠ z := fun x => by subst x; rw [hzq] at hoe; cases hoe; simp at hce
      refine wpAny_setField_rec (s := ⟨q, gg, dd, tk1, os⟩) hzq (by simp) fun q' _ hq' => ?_
      replace hq' : Heap.SameBut z q q' := hq'
      exact hE q' tk1 e (fun c o cz cT c1 c2 x => hq'.extBut _ _ cz (hq _ _ c2 (sq1.extBut _ _ cT (sp1.extBut _ _ c1 (sq0.extBut _ _ cz x))))) ⟨oe, hq'.extBut _ _ hez hoe, hce⟩
    · have e1 : i = n1 := by omega
      refine wpAny_bind (D1.done ⟨q0, gg, dd, tk0, os⟩ _ _ (by rw [← e1]; exact (D1.over st1 sq0 S.zf1)) fun q e hq he => ?_)
      replace hq : Heap.ExtBut i1 q0 q := hq
      obtain ⟨oe, hoe, hce⟩ := he
      replace hoe : q.get? e = some oe := hoe
      have hzq := hq _ _ S.zi1 hz0
      have hez : e ≠ z := fun x => by subst x; rw [hzq] at hoe; cases hoe; simp at hce
      refine wpAny_setField_rec (s := ⟨q, gg, dd, tk0, os⟩) hzq (by simp) fun q' _ hq' => ?_
      replace hq' : Heap.SameBut z q q' := hq'
      exact hE q' tk0 e (fun c o cz cT c1 c2 x => hq'.extBut _ _ cz (hq _ _ c1 (sq0.extBut _ _ cz x))) ⟨oe, hq'.extBut _ _ hez hoe, hce⟩
  · simp only [Bool.false_eq_true, if_false]
    replace sq0 : Heap.SameBut z hp q0 := sq0
    refine wpAny_bind ?_
    rw [← Array.forIn_toList]
    simp only [List.forIn_cons, List.forIn_nil]
    refine wpAny_bind (wpAny_bind (wpAny_holding ?_))
    show wpAny _ _ (Builtin.SmallTypes.nextOf (.ref i1) >>= fun _ => _) _ _ ⟨q0, gg, dd, tk0, os⟩
    by_cases lt1 : i < n1
    · refine wpAny_bind (D1.item i _ _ _ lt1 (D1.over st1 sq0 S.zf1) fun x1 p1 tk1 y1 sn1 sp1 => wpAny_pure (wpAny_pure ?_))
      replace sp1 : Heap.SameBut i1 q0 p1 := sp1
      have e2 : i = n2 := by omega
      refine wpAny_bind (wpAny_bind (wpAny_holding ?_))
      show wpAny _ _ (Builtin.SmallTypes.nextOf (.ref i2) >>= fun _ => _) _ _ ⟨p1, gg, dd, tk1, os⟩
      refine wpAny_bind (D2.done ⟨p1, gg, dd, tk1, os⟩ _ _ (by rw [← e2]; exact (D2.over (D2.over st2 sq0 S.zf2) sp1 S.sep1_2)) fun q e hq he => ?_)
      replace hq : Heap.ExtBut i2 p1 q := hq
      exact hE q tk1 e (fun c o cz cT c1 c2 x => hq _ _ c2 (sp1.extBut _ _ c1 (sq0.extBut _ _ cz x))) he
    · have e1 : i = n1 := by omega
      refine wpAny_bind (D1.done ⟨q0, gg, dd, tk0, os⟩ _ _ (by rw [← e1]; exact (D1.over st1 sq0 S.zf1)) fun q e hq he => ?_)
      replace hq : Heap.ExtBut i1 q0 q := hq
      exact hE q tk0 e (fun c o cz cT c1 c2 x => hq _ _ c1 (sq0.extBut _ _ cz x)) he
end
end EZ
namespace EZ
open PySem PySem.Spec PyProof.Rows L2
section
variable {P : Program} {w : World} {A : Around} {E : Value → Shared → Prop} {s : Shared} {z TI TO i1 i2 : Addr} {fp1 fp2 : List Addr} {n1 n2 i : Nat} {P1 P2 : Nat → Value → Prop} {St1 St2 : Nat → Heap → Prop}
def ZSt (z TI TO i1 i2 : Addr) (n1 n2 : Nat) (St1 St2 : Nat → Heap → Prop) (i : Nat) (h : Heap) : Prop :=
  i ≤ n1 ∧ i ≤ n2 ∧ Zst h z TI TO ∧ IsTupOf2 h TI (.ref i1) (.ref i2) ∧ (∃ a1 a2, IsTupOf2 h TO a1 a2) ∧ St1 i h ∧ St2 i h
def ZY (P1 P2 : Nat → Value → Prop) (i m : Nat) (v : Value) (h : Heap) : Prop := ∃ (T : Addr) (x1 x2 : Value), v = .ref T ∧ m ≤ T ∧ P1 i x1 ∧ P2 i x2 ∧ IsTupOf2 h T x1 x2
theorem feed_zip (S : ZipSep2 z TI TO i1 i2 fp1 fp2) (D1 : Draws P w A.in1 i1 fp1 n1 P1 St1) (D2 : Draws P w A.in1 i2 fp2 n2 P2 St2)
    (th1 : ∀ i h, St1 i h → ∀ b ∈ fp1, ∃ o, h.get? b = some o ∧ ∀ v, o.data ≠ .cell v) (th2 : ∀ i h, St2 i h → ∀ b ∈ fp2, ∃ o, h.get? b = some o ∧ ∀ v, o.data ≠ .cell v) :
    Feed P w A z (z :: TI :: TO :: (fp1 ++ fp2)) [z, TO, i1, i2] (min n1 n2) (ZY P1 P2) (ZSt z TI TO i1 i2 n1 n2 St1 St2) where
  frame := fun i h h' st k => by
    obtain ⟨l1, l2, ⟨f0, fl, hz, h0⟩, t1, ⟨a1, a2, t2⟩, s1, s2⟩ := st
    exact ⟨l1, l2, ⟨f0, fl, k _ (by simp) _ hz, h0⟩, k _ (by simp) _ t1, ⟨a1, a2, k _ (by simp) _ t2⟩, D1.frame _ _ _ s1 fun b mb o e => k b (by simp [mb]) o e, D2.frame _ _ _ s2 fun b mb o e => k b (by simp [mb]) o e⟩
  mem := List.mem_cons_self
  sub := fun b hb => by
    simp only [List.mem_cons, List.not_mem_nil, or_false] at hb
    rcases hb with rfl | rfl | rfl | rfl
    · simp
    · simp
    · simp [S.mem1]
    · simp [S.mem2]
  there := fun i h st b hb => by
    obtain ⟨l1, l2, ⟨f0, fl, hz, h0⟩, t1, ⟨a1, a2, t2⟩, s1, s2⟩ := st
    simp only [List.mem_cons, List.mem_append] at hb
    rcases hb with rfl | rfl | rfl | hb | hb
    · exact ⟨_, hz, fun v e => by cases e⟩
    · exact ⟨_, t1, fun v e => by cases e⟩
    · exact ⟨_, t2, fun v e => by cases e⟩
    · exact th1 i h s1 b hb
    · exact th2 i h s2 b hb
  yes := fun i m v h h' y k => by
    obtain ⟨T, x1, x2, rfl, mT, y1, y2, t⟩ := y
    exact ⟨T, x1, x2, rfl, mT, y1, y2, k T _ mT t⟩
  item := fun i s Q E lt st hQ => by
    obtain ⟨l1, l2, hz, t1, t2, s1, s2⟩ := st
    have ty : s.TypeIs (.ref z) "zip" := by obtain ⟨f0, fl, hz, _⟩ := hz; exact ⟨_, hz, rfl⟩
    unfold Builtin.SmallTypes.nextOf
    refine wpAny_bind (wpAny_callSpecial?_slot (name := Str.ofString "__next__") ty F.slot_zip_next
      (wpAny_call_entry F.slot_zip_next ty F.entry_zip_next (zn_item S D1 D2 hz t1 t2 s1 s2 (by omega) (by omega) fun x1 x2 h' tk T y1 y2 hz' t2' s1' s2' t3 mT sz kk => ?_) (F.args_zip_next_1 _)))
    refine wpAny_pure (hQ (.ref T) h' tk ⟨by omega, by omega, hz', ?_, t2', s1', s2'⟩ sz (fun b o nb e => kk b o (fun q => nb (by simp [q])) (fun q => nb (by simp [q])) (fun q => nb (by simp [q])) (fun q => nb (by simp [q])) e) ⟨T, x1, x2, rfl, mT, y1, y2, t3⟩)
    exact kk _ _ S.TIz S.TITO S.TIi1 S.TIi2 t1
  done := fun i s Q E ge st hE => by
    obtain ⟨l1, l2, hz, t1, t2, s1, s2⟩ := st
    have ty : s.TypeIs (.ref z) "zip" := by obtain ⟨f0, fl, hz, _⟩ := hz; exact ⟨_, hz, rfl⟩
    unfold Builtin.SmallTypes.nextOf
    exact wpAny_bind (wpAny_callSpecial?_slot (name := Str.ofString "__next__") ty F.slot_zip_next
      (wpAny_call_entry F.slot_zip_next ty F.entry_zip_next (zn_done S D1 D2 hz t1 t2 s1 s2 l1 l2 (by omega) fun h' tk e kk he => hE h' tk e (fun b o nb e => kk b o (fun q => nb (by simp [q])) (fun q => nb (by simp [q])) (fun q => nb (by simp [q])) (fun q => nb (by simp [q])) e) he) (F.args_zip_next_1 _)))
end
end EZ
namespace EZ
open PySem PySem.Spec PyProof.Rows L2
/-- an iterator has moved, two new objects are laid -/
theorem turned2 {X : Cx} {pins : List (Addr × Obj)} {σ : L2.St} {H : Hp} {s : Shared} {h' : Heap} {t' : Nat} {ch : List Addr} {T1 T2 : Addr} {o1 o2 : HO} (I : Inv X pins σ H s) (k : ∀ b o, b ∉ ch → s.heap.get? b = some o → h'.get? b = some o) (hf : ∀ b ∈ ch, FpOk X pins H b)
    (g1 : s.heap.objs.size ≤ T1) (g2 : s.heap.objs.size ≤ T2) (ne : T2 ≠ T1)
    (n1 : ObjOk X.prog X.w (upd (upd H T1 o1) T2 o2) h' T1 o1) (n2 : ObjOk X.prog X.w (upd (upd H T1 o1) T2 o2) h' T2 o2) : Inv X pins σ (upd (upd H T1 o1) T2 o2) { s with heap := h', toks := t' } := by
  have hn1 : H T1 = none := I.hok.fresh g1
  have hn2 : H T2 = none := I.hok.fresh g2
  have up : ∀ b u, H b = some u → upd (upd H T1 o1) T2 o2 b = some u := fun b u e => by
    rw [upd_ne (ne_of_none e hn2), upd_ne (ne_of_none e hn1)]; exact e
  have nit : ∀ b u, H b = some u → b ∉ ch := fun b u e z => by
    have q := (hf b z).1
    rw [q] at e; cases e
  refine I.step (g' := s.gens) (d' := s.drawn) (ch := ch) (fun b hb => ⟨(hf b hb).2.2.2.1, (hf b hb).2.1, (hf b hb).2.2.2.2.1, (hf b hb).2.2.2.2.2⟩) (fun b o _ _ hc e _ => k b o hc e) (fun b o _ _ hc e _ => ⟨o.slots, k b o hc e⟩)
    (fun b o _ e n => ?_) (fun b o hc e => ⟨o, k b o hc e⟩) (fun b xs e => up b _ e) (fun b o u e => up b _ e) (fun b ps e => ⟨#[], ?_⟩) (fun m hm => ?_) (fun b u e => ?_) I.bare
  · have lt := Heap.lt_size e
    rw [upd_ne (Nat.ne_of_lt (Nat.lt_of_lt_of_le lt g2)), upd_ne (Nat.ne_of_lt (Nat.lt_of_lt_of_le lt g1))]; exact n
  · rw [up b _ e]; simp
  · obtain ⟨o, es, ep, ho, r⟩ := hm
    exact ⟨o, es, ep, k _ o (fun z => (hf _ z).2.1 rfl) ho, r⟩
  · by_cases hb : b = T2
    · subst hb
      rw [upd_same] at e
      cases e
      exact n2
    · rw [upd_ne hb] at e
      by_cases hb1 : b = T1
      · subst hb1
        rw [upd_same] at e
        cases e
        exact n1
      · rw [upd_ne hb1] at e
        refine (I.hok b u e).stay (fun c v hc q => k c v ?_ q) (fun c q => up c _ q) fun c xs q => up c _ q
        rcases hc with z | z
        · rw [z]; exact nit b u e
        · exact nit c _ z
/-- the pairs of two sequences, each beside its place -/
def Itez (sq : PySem.W.Frag → Hp → Addr → List V → Prop) (K : PySem.W.Frag) (a b : Addr) : It :=
  ⟨fun i H => ∃ (xs ys : List V) (x y : V), sq K H a xs ∧ sq K H b ys ∧ xs[i]? = some x ∧ ys[i]? = some y,
    fun i H v H' => ∃ T1 T x y, v = .ref T ∧ H T1 = none ∧ H T = none ∧ T ≠ T1 ∧ H' = upd (upd H T1 (.tup [x, y])) T (.tup [.int (i : Nat), .ref T1]) ∧ (∀ xs, sq K H a xs → xs[i]? = some x) ∧ ∀ ys, sq K H b ys → ys[i]? = some y,
    fun i H => ∃ xs ys : List V, sq K H a xs ∧ sq K H b ys ∧ i = min xs.length ys.length⟩
/-- what stands while it is walked -/
def EZst (It1 : Heap → Addr → Addr → Nat → Prop) (u z TI TO i1 i2 a b : Addr) (i : Nat) (h : Heap) : Prop :=
  (∃ old, IsEnum h u z ((i : Nat) : Int) old) ∧ Zst h z TI TO ∧ IsTupOf2 h TI (.ref i1) (.ref i2) ∧ (∃ a1 a2, IsTupOf2 h TO a1 a2) ∧ It1 h i1 a i ∧ It1 h i2 b i
theorem ez_item {X : Cx} (hc : X.calm = true) {i : Nat} {pins : List (Addr × Obj)} {s : Shared} {σ : L2.St} {H : Hp} {E : Value → Shared → Prop} {It1 : Heap → Addr → Addr → Nat → Prop} {u z TI TO i1 i2 a b : Addr} {elts : List Expr} {kk : Nat} {tpos : Pos}
    {St1 St2 : Nat → Heap → Prop} {its its2 : List Value} (S : ZipSep2 z TI TO i1 i2 [i1, a] [i2, b]) (off : u ∉ z :: TI :: TO :: ([i1, a] ++ [i2, b]))
    (D1 : Draws X.prog X.w X.A.in1.in1 i1 [i1, a] its.toArray.size (fun i v => its.toArray[i]? = some v) St1) (D2 : Draws X.prog X.w X.A.in1.in1 i2 [i2, b] its2.toArray.size (fun i v => its2.toArray[i]? = some v) St2)
    (th1 : ∀ i h, St1 i h → ∀ b' ∈ [i1, a], ∃ o, h.get? b' = some o ∧ ∀ v, o.data ≠ .cell v) (th2 : ∀ i h, St2 i h → ∀ b' ∈ [i2, b], ∃ o, h.get? b' = some o ∧ ∀ v, o.data ≠ .cell v)
    (I : Inv X pins σ H s) (hf : ∀ c ∈ [u, z, TI, TO, i1, i2], FpOk X pins H c) (st : EZst It1 u z TI TO i1 i2 a b i s.heap) (s1 : St1 i s.heap) (s2 : St2 i s.heap)
    (back1 : ∀ h, St1 (i + 1) h → It1 h i1 a (i + 1)) (back2 : ∀ h, St2 (i + 1) h → It1 h i2 b (i + 1))
    {x y : V} {vx vy : Value} (e1 : its.toArray[i]? = some vx) (e2 : its2.toArray[i]? = some vy) (r1 : RelV x vx) (r2 : RelV y vy) :
    wpAny (model X.prog X.w) X.A (pyNext (.ref u)) (fun r s1 => ∃ w, r = some w ∧
      wpAny (model X.prog X.w) X.A (letOwnedTupleGo (.Tuple elts kk tpos) (.ref u) w) (fun _ s2 => ∃ T1 T, Inv X pins σ (upd (upd H T1 (.tup [x, y])) T (.tup [.int (i : Nat), .ref T1])) s2 ∧ w = .ref T ∧ H T1 = none ∧ H T = none ∧ T ≠ T1 ∧
        EZst It1 u z TI TO i1 i2 a b (i + 1) s2.heap ∧ ∀ c ∈ [u, z, TI, TO, i1, i2], upd (upd H T1 (.tup [x, y])) T (.tup [.int (i : Nat), .ref T1]) c = none) E s1) E s := by
  obtain ⟨⟨old, he⟩, hz, t1, t2, q1, q2⟩ := st
  have F := feed_zip (A := X.A.in1) S D1 D2 th1 th2
  have l1 : i < its.toArray.size := (Array.getElem?_eq_some_iff.mp e1).1
  have l2 : i < its2.toArray.size := (Array.getElem?_eq_some_iff.mp e2).1
  have hul : u < s.heap.objs.size := Heap.lt_size he
  have hzl : z < s.heap.objs.size := by obtain ⟨_, _, q, _⟩ := hz; exact Heap.lt_size q
  refine nx_item F he ⟨Nat.le_of_lt l1, Nat.le_of_lt l2, hz, t1, t2, s1, s2⟩ (by omega) off fun v h' tk T yv eo st' hT mT hm k => ⟨_, rfl, wpAny_letOwnedTupleGo_enum (s := { s with heap := h', toks := tk + 1 }) eo fun h'' he' sb => ?_⟩
  obtain ⟨T1, x1, x2, rfl, mT1, y1, y2, t3⟩ := yv
  rw [e1] at y1
  rw [e2] at y2
  cases y1
  cases y2
  obtain ⟨m1, m2, ⟨f0, fl, hz', h0'⟩, t1', ⟨c1, c2, t2'⟩, s1', s2'⟩ := st'
  have neT : T ≠ T1 := by
    obtain ⟨hm, ⟨T1', x1', x2', eq, _, _, _, t3'⟩, eT⟩ := hm
    cases eq
    have lt := Heap.lt_size t3'
    intro q
    rw [← q, eT] at lt
    exact absurd lt (Nat.lt_irrefl _)
  have ult : ∀ c, s.heap.objs.size ≤ c → c ≠ u := fun c h q => by rw [q] at h; exact absurd hul (Nat.not_lt_of_le h)
  have hT2 : h''.get? T = some { cls := .type "tuple", data := .seq #[.int (i : Nat) tk, .ref T1] } := (sb.2 _ (ult T mT)).trans hT
  have hT1 : h''.get? T1 = some { cls := .type "tuple", data := .seq #[vx, vy] } := (sb.2 _ (ult T1 mT1)).trans t3
  have n1 : ObjOk X.prog X.w (upd (upd H T1 (.tup [x, y])) T (.tup [.int (i : Nat), .ref T1])) h'' T1 (.tup [x, y]) :=
    ⟨by show 2 ≤ sizeLine; decide, [vx, vy], .cons r1 (.cons r2 .nil), ⟨_, hT1, rfl, _, rfl⟩⟩
  have n2 : ObjOk X.prog X.w (upd (upd H T1 (.tup [x, y])) T (.tup [.int (i : Nat), .ref T1])) h'' T (.tup [.int (i : Nat), .ref T1]) :=
    ⟨by show 2 ≤ sizeLine; decide, [.int (i : Nat) tk, .ref T1], .cons ⟨_, rfl⟩ (.cons rfl .nil), ⟨_, hT2, rfl, _, rfl⟩⟩
  have I1 := turned2 (t' := tk + 1) (ch := [u, z, TI, TO, i1, i2]) I (fun c o hb q => (sb.2 c (fun q' => hb (by simp [q']))).trans (k c o (fun q' => hb (by simp [q'])) (fun q' => hb (by
    simp only [List.mem_cons, List.not_mem_nil, or_false] at q'
    rcases q' with q' | q' | q' | q' <;> simp [q'])) q)) hf mT1 mT neT n1 n2
  have offz : ∀ c ∈ z :: TI :: TO :: ([i1, a] ++ [i2, b]), c ≠ u := fun c hb q => off (q ▸ hb)
  have nz : z ≠ u := offz z (by simp)
  have nTI : TI ≠ u := offz TI (by simp)
  have nTO : TO ≠ u := offz TO (by simp)
  have up1 : St1 (i + 1) h'' := D1.frame _ _ _ s1' fun c mc o e => (sb.2 c (offz c (by simp at mc ⊢; rcases mc with q | q <;> simp [q]))).trans e
  have up2 : St2 (i + 1) h'' := D2.frame _ _ _ s2' fun c mc o e => (sb.2 c (offz c (by simp at mc ⊢; rcases mc with q | q <;> simp [q]))).trans e
  refine ⟨T1, T, I1, rfl, I.hok.fresh mT1, I.hok.fresh mT, neT, ⟨⟨.ref T1, ?_⟩, ⟨f0, fl, (sb.2 _ nz).trans hz', h0'⟩, (sb.2 _ nTI).trans t1', ⟨c1, c2, (sb.2 _ nTO).trans t2'⟩, back1 _ up1, back2 _ up2⟩, fun c hcm => ?_⟩
  · have e3 : ((i + 1 : Nat) : Int) = (i : Int) + 1 := by omega
    rw [e3]; exact he'
  · have hlt : c < s.heap.objs.size := by
      have q := off
      simp only [List.mem_cons, List.not_mem_nil, or_false] at hcm
      obtain ⟨b1, b2, t2⟩ := t2
      obtain ⟨_, _, hz, _⟩ := hz
      obtain ⟨o1, w1, _⟩ := th1 i _ s1 i1 (by simp)
      obtain ⟨o2, w2, _⟩ := th2 i _ s2 i2 (by simp)
      rcases hcm with rfl | rfl | rfl | rfl | rfl | rfl
      · exact hul
      · exact hzl
      · exact Heap.lt_size t1
      · exact Heap.lt_size t2
      · exact Heap.lt_size w1
      · exact Heap.lt_size w2
    rw [upd_ne (Nat.ne_of_lt (Nat.lt_of_lt_of_le hlt mT)), upd_ne (Nat.ne_of_lt (Nat.lt_of_lt_of_le hlt mT1))]
    exact (hf c hcm).1
end EZ
namespace EZ
open PySem PySem.Spec PyProof.Rows L2
def ItL (h : Heap) (it a : Addr) (i : Nat) : Prop := h.IsListIter it a i
def ItT (h : Heap) (it a : Addr) (i : Nat) : Prop := h.IsTupleIter it a i
theorem ez_keep {It1 : Heap → Addr → Addr → Nat → Prop} (hat : ∀ h h' it a i, It1 h it a i → (∀ o, h.get? it = some o → h'.get? it = some o) → It1 h' it a i) {u z TI TO i1 i2 a b : Addr} (i : Nat) (h h' : Heap) (st : EZst It1 u z TI TO i1 i2 a b i h)
    (k : ∀ c ∈ [u, z, TI, TO, i1, i2], ∀ o, h.get? c = some o → h'.get? c = some o) : EZst It1 u z TI TO i1 i2 a b i h' := by
  obtain ⟨⟨old, he⟩, ⟨f0, fl, hz, h0⟩, t1, ⟨a1, a2, t2⟩, q1, q2⟩ := st
  exact ⟨⟨old, k u (by simp) _ he⟩, ⟨f0, fl, k z (by simp) _ hz, h0⟩, k TI (by simp) _ t1, ⟨a1, a2, k TO (by simp) _ t2⟩, hat _ _ _ _ _ q1 fun o e => k i1 (by simp) o e, hat _ _ _ _ _ q2 fun o e => k i2 (by simp) o e⟩
theorem ez_obj {It1 : Heap → Addr → Addr → Nat → Prop} (hob : ∀ h it a i, It1 h it a i → ∃ o, h.get? it = some o ∧ ∀ v, o.data ≠ .cell v) {u z TI TO i1 i2 a b : Addr} (i : Nat) (h : Heap) (st : EZst It1 u z TI TO i1 i2 a b i h) :
    ∀ c ∈ [u, z, TI, TO, i1, i2], ∃ o, h.get? c = some o ∧ ∀ v, o.data ≠ .cell v := fun c hc => by
  obtain ⟨⟨old, he⟩, ⟨f0, fl, hz, h0⟩, t1, ⟨a1, a2, t2⟩, q1, q2⟩ := st
  simp only [List.mem_cons, List.not_mem_nil, or_false] at hc
  rcases hc with rfl | rfl | rfl | rfl | rfl | rfl
  · exact ⟨_, he, fun v q => by cases q⟩
  · exact ⟨_, hz, fun v q => by cases q⟩
  · exact ⟨_, t1, fun v q => by cases q⟩
  · exact ⟨_, t2, fun v q => by cases q⟩
  · exact hob _ _ _ _ q1
  · exact hob _ _ _ _ q2
theorem obL (h : Heap) (it a : Addr) (i : Nat) (q : ItL h it a i) : ∃ o, h.get? it = some o ∧ ∀ v, o.data ≠ .cell v := by
  obtain ⟨o, e, _, d⟩ := q
  exact ⟨o, e, fun v q => by rw [d] at q; cases q⟩
theorem obT (h : Heap) (it a : Addr) (i : Nat) (q : ItT h it a i) : ∃ o, h.get? it = some o ∧ ∀ v, o.data ≠ .cell v := by
  obtain ⟨o, e, _, d⟩ := q
  exact ⟨o, e, fun v q => by rw [d] at q; cases q⟩
theorem thL {it l : Addr} {items : Array Value} : ∀ (i : Nat) (h : Heap), (h.IsListIter it l i ∧ h.IsList l items) → ∀ b ∈ [it, l], ∃ o, h.get? b = some o ∧ ∀ v, o.data ≠ .cell v := fun i h st b hb => by
  simp only [List.mem_cons, List.not_mem_nil, or_false] at hb
  rcases hb with rfl | rfl
  · exact obL h _ l i st.1
  · obtain ⟨o, e, _, _, d⟩ := st.2
    exact ⟨o, e, fun v q => by rw [d] at q; cases q⟩
theorem thT {it l : Addr} {items : Array Value} : ∀ (i : Nat) (h : Heap), (h.IsTupleIter it l i ∧ h.IsTuple l items) → ∀ b ∈ [it, l], ∃ o, h.get? b = some o ∧ ∀ v, o.data ≠ .cell v := fun i h st b hb => by
  simp only [List.mem_cons, List.not_mem_nil, or_false] at hb
  rcases hb with rfl | rfl
  · exact obT h _ l i st.1
  · obtain ⟨o, e, _, _, d⟩ := st.2
    exact ⟨o, e, fun v q => by rw [d] at q; cases q⟩
theorem turn_ezL {P : Program} {w : World} {K : PySem.W.Frag} {elts : List Expr} {kk : Nat} {tpos : Pos} {u z TI TO i1 i2 a b : Addr} (S : ZipSep2 z TI TO i1 i2 [i1, a] [i2, b]) (na : a ≠ i1) (nb : b ≠ i2) (off : u ∉ z :: TI :: TO :: ([i1, a] ++ [i2, b])) :
    Turn P w K (.Tuple elts kk tpos) (Itez SqL K a b) [u, z, TI, TO, i1, i2] u (EZst ItL u z TI TO i1 i2 a b) where
  mem := by simp
  obj := ez_obj obL
  keep := ez_keep fun h h' it a i q k => q.at k
  item := by
    intro X hP hw hK hc i pins s σ H E I hf st hg
    subst hP hw hK
    obtain ⟨xs, ys, x, y, hqx, hqy, hx, hy⟩ := hg
    obtain ⟨its, rv, p, _⟩ := I.list hqx
    obtain ⟨its2, rv2, p2, _⟩ := I.list hqy
    obtain ⟨v1, hv1, ru⟩ := rv.get hx
    obtain ⟨v2, hv2, ru2⟩ := rv2.get hy
    have hh : X.A.in1.in1.handled = none := I.ok.hd hc
    have st0 := st
    obtain ⟨_, _, _, _, q1, q2⟩ := st0
    refine wpAny_mono (ez_item hc S off (Draws.list hh i1 a na its.toArray) (Draws.list hh i2 b nb its2.toArray) thL thL I hf st ⟨q1, p.isList⟩ ⟨q2, p2.isList⟩ (fun h q => q.1) (fun h q => q.1) (by simpa using hv1) (by simpa using hv2) ru ru2) (fun r s1 ⟨w, hw, z⟩ => ⟨w, hw, wpAny_mono z (fun _ s2 ⟨T1, T, I2, ew, h1, h2, ne, st2, hn⟩ => ?_) fun _ _ h => h⟩) fun _ _ h => h
    exact ⟨.ref T, _, I2, ew ▸ rfl, ⟨T1, T, x, y, rfl, h1, h2, ne, rfl, fun l hl => by rw [I.list_inj hl hqx]; exact hx, fun l hl => by rw [I.list_inj hl hqy]; exact hy⟩, st2, hn⟩
  done := by
    intro X hP hw hK hc i pins s σ H E I hf st hg
    subst hP hw hK
    obtain ⟨xs, ys, hqx, hqy, hend⟩ := hg
    obtain ⟨its, rv, p, _⟩ := I.list hqx
    obtain ⟨its2, rv2, p2, _⟩ := I.list hqy
    have l1 := rv.length
    have l2 := rv2.length
    have hh : X.A.in1.in1.handled = none := I.ok.hd hc
    obtain ⟨⟨old, he⟩, hz, t1, t2, q1, q2⟩ := st
    have F := feed_zip (P := X.prog) (w := X.w) (A := X.A.in1) S (Draws.list hh i1 a na its.toArray) (Draws.list hh i2 b nb its2.toArray) thL thL
    have s1 : its.toArray.size = xs.length := by simp [l1]
    have s2 : its2.toArray.size = ys.length := by simp [l2]
    exact nx_done F he ⟨by omega, by omega, hz, t1, t2, ⟨q1, p.isList⟩, q2, p2.isList⟩ (by omega) fun h' tk k => ⟨rfl, I.turnedL (t' := tk) (ch := [u, z, TI, TO, i1, i2]) (fun c o hb q => k c o (fun q' => hb (by
      simp only [List.mem_cons, List.not_mem_nil, or_false] at q'
      rcases q' with q' | q' | q' | q' <;> simp [q'])) q) hf⟩
  self := fun A i s Q E st h => by
    obtain ⟨⟨old, he⟩, _⟩ := st
    exact wpAny_pyIter_enum he h
theorem turn_ezT {P : Program} {w : World} {K : PySem.W.Frag} {elts : List Expr} {kk : Nat} {tpos : Pos} {u z TI TO i1 i2 a b : Addr} (S : ZipSep2 z TI TO i1 i2 [i1, a] [i2, b]) (na : a ≠ i1) (nb : b ≠ i2) (off : u ∉ z :: TI :: TO :: ([i1, a] ++ [i2, b])) :
    Turn P w K (.Tuple elts kk tpos) (Itez SqT K a b) [u, z, TI, TO, i1, i2] u (EZst ItT u z TI TO i1 i2 a b) where
  mem := by simp
  obj := ez_obj obT
  keep := ez_keep fun h h' it a i q k => q.at k
  item := by
    intro X hP hw hK hc i pins s σ H E I hf st hg
    subst hP hw hK
    obtain ⟨xs, ys, x, y, hqx, hqy, hx, hy⟩ := hg
    obtain ⟨its, rv, p, _⟩ := I.tuple hqx
    obtain ⟨its2, rv2, p2, _⟩ := I.tuple hqy
    obtain ⟨v1, hv1, ru⟩ := rv.get hx
    obtain ⟨v2, hv2, ru2⟩ := rv2.get hy
    have hh : X.A.in1.in1.handled = none := I.ok.hd hc
    have st0 := st
    obtain ⟨_, _, _, _, q1, q2⟩ := st0
    refine wpAny_mono (ez_item hc S off (Draws.tuple hh i1 a na its.toArray) (Draws.tuple hh i2 b nb its2.toArray) thT thT I hf st ⟨q1, p⟩ ⟨q2, p2⟩ (fun h q => q.1) (fun h q => q.1) (by simpa using hv1) (by simpa using hv2) ru ru2) (fun r s1 ⟨w, hw, z⟩ => ⟨w, hw, wpAny_mono z (fun _ s2 ⟨T1, T, I2, ew, h1, h2, ne, st2, hn⟩ => ?_) fun _ _ h => h⟩) fun _ _ h => h
    exact ⟨.ref T, _, I2, ew ▸ rfl, ⟨T1, T, x, y, rfl, h1, h2, ne, rfl, fun l hl => by rw [I.tuple_inj hl hqx]; exact hx, fun l hl => by rw [I.tuple_inj hl hqy]; exact hy⟩, st2, hn⟩
  done := by
    intro X hP hw hK hc i pins s σ H E I hf st hg
    subst hP hw hK
    obtain ⟨xs, ys, hqx, hqy, hend⟩ := hg
    obtain ⟨its, rv, p, _⟩ := I.tuple hqx
    obtain ⟨its2, rv2, p2, _⟩ := I.tuple hqy
    have l1 := rv.length
    have l2 := rv2.length
    have hh : X.A.in1.in1.handled = none := I.ok.hd hc
    obtain ⟨⟨old, he⟩, hz, t1, t2, q1, q2⟩ := st
    have F := feed_zip (P := X.prog) (w := X.w) (A := X.A.in1) S (Draws.tuple hh i1 a na its.toArray) (Draws.tuple hh i2 b nb its2.toArray) thT thT
    have s1 : its.toArray.size = xs.length := by simp [l1]
    have s2 : its2.toArray.size = ys.length := by simp [l2]
    exact nx_done F he ⟨by omega, by omega, hz, t1, t2, ⟨q1, p⟩, q2, p2⟩ (by omega) fun h' tk k => ⟨rfl, I.turnedL (t' := tk) (ch := [u, z, TI, TO, i1, i2]) (fun c o hb q => k c o (fun q' => hb (by
      simp only [List.mem_cons, List.not_mem_nil, or_false] at q'
      rcases q' with q' | q' | q' | q' <;> simp [q'])) q) hf⟩
  self := fun A i s Q E st h => by
    obtain ⟨⟨old, he⟩, _⟩ := st
    exact wpAny_pyIter_enum he h
end EZ
namespace EZ
open PySem PySem.Spec PyProof.Rows L2
open AutoSeq1 (wpAny_loadPart')
theorem new_ez (z TI TO : Addr) :
    Meets (Builtin.«enumerate.__new__» ⟨[.type "enumerate", .ref z], []⟩) (fun _ R s => IsZip s.heap z TI TO .none ∧
      R (.ok (.ret (.ref s.heap.objs.size))) { s with heap := s.heap.push { cls := .type "enumerate", data := .fields #[.none, .bool false, .ref z, rawInt 0, .none, .none] } }) :=
  .of_wp fun prog w A R s h => by
    obtain ⟨hp, g, d, tk, os⟩ := s; obtain ⟨hl, h⟩ := h
    have hsub := sub_enumerate
    have hz : IsZip (Shared.heap ⟨hp, g, d, tk, os⟩) z TI TO .none := hl
    wp_walk using wpAny_loadPart' hl
    refine wpAny_stack_any fun st => wpAny_pure ?_
    split
    · rename_i c _ _ _ _ _
      cases (c == Value.type "enumerate")
      · wp_walk using wpAny_loadPart' hl, wpAny_pyIter_zip hz
        exact ⟨_, rfl, h⟩
      · wp_walk using wpAny_loadPart' hl, wpAny_pyIter_zip hz
        exact ⟨_, rfl, h⟩
    · wp_walk using wpAny_loadPart' hl, wpAny_pyIter_zip hz
      exact ⟨_, rfl, h⟩
theorem call_ez {prog : Program} {w : World} {A : Around} {E : Value → Shared → Prop} {s : Shared} {z TI TO : Addr} {Q : Value → Shared → Prop} (hz : IsZip s.heap z TI TO .none)
    (h : ∀ h', IsEnum h' s.heap.objs.size z 0 .none → h'.objs.size = s.heap.objs.size + 1 → (∀ b o, s.heap.get? b = some o → h'.get? b = some o) → Q (.ref s.heap.objs.size) { s with heap := h' }) :
    wpAny (model prog w) A (call (.type "enumerate") [.ref z]) Q E s := by
  refine callType_new F.called_enumerate (by decide) (F.typeCall_enumerate_1 _) (F.newCall_enumerate_1 _) (fun obj => F.args_object_init_2 obj _) F.entry_enumerate_new
    (new_ez z TI TO) ⟨hz, ?_⟩
  show _ ∧ _
  have he : IsEnum (s.heap.push { cls := .type "enumerate", data := .fields #[.none, .bool false, .ref z, rawInt 0, .none, .none] }) s.heap.objs.size z 0 .none :=
    Heap.get?_push_size s.heap (o := { cls := .type "enumerate", data := .fields #[.none, .bool false, .ref z, rawInt 0, .none, .none] }) rfl
  exact ⟨⟨_, he, rfl⟩, h _ he (Heap.size_push ..) fun b o x => Heap.get?_push_of_some _ x⟩
end EZ
namespace EZ
open PySem PySem.Spec PyProof.Rows L2
theorem apart2 (I a b : Nat) (h1 : a < I) (h2 : b < I) : ZipSep2 (I + 4) (I + 2) (I + 3) I (I + 1) [I, a] [I + 1, b] := by
  have nm : ∀ x y c : Nat, x ≠ y → x ≠ c → x ∉ [y, c] := fun x y c h g q => by
    simp only [List.mem_cons, List.not_mem_nil, or_false] at q
    exact q.elim h g
  refine ⟨?_, ?_, ?_, ?_, by simp, nm _ _ _ ?_ ?_, nm _ _ _ ?_ ?_, ?_, by simp, nm _ _ _ ?_ ?_, nm _ _ _ ?_ ?_, nm _ _ _ ?_ ?_, nm _ _ _ ?_ ?_⟩ <;> (refine PySem.W.neN ?_; omega)
def iEZ (K : PySem.W.Frag) (ta : TA) : TI := fun σ H R => ta σ H fun vs H1 => ∃ a b xs ys, vs = [.ref a, .ref b] ∧ ((SqL K H1 a xs ∧ SqL K H1 b ys ∧ R (Itez SqL K a b) H1) ∨ (SqT K H1 a xs ∧ SqT K H1 b ys ∧ R (Itez SqT K a b) H1))
theorem pi_ez {X : Cx} {e e2 : Expr} {ta : TA} {p p' pos pos' tpos : Pos} {elts : List Expr} {kk : Nat} (hg1 : Gl X "enumerate") (hm1 : X.mg "enumerate" = none) (hg : Gl X "zip") (hm : X.mg "zip" = none) (ha : PA X [e, e2] ta)
    (hs : starEach [e, e2] X.env = (false, eval e X.env) :: starEach [e2] X.env := by rfl) (hpl : (backTo pos' (starEach [e2] X.env)).any (·.1) = false := by rfl) :
    PI X (.Tuple elts kk tpos) (.Call (.Name "enumerate" p) [.Call (.Name "zip" p') [e, e2] [] pos'] [] pos) (iEZ X.K ta) := by
  refine ⟨fun pins s σ H R I h => ?_⟩
  refine Call_ (ld_blt I hg1 hm1 boot_enumerate (PyProof.Rows.callWith_type1 (Calls.spliced_cons (wpAny_mono (Q := fun v s1 => wpAny (model X.prog X.w) X.A (call (.type "enumerate") [v]) (fun v s1 => wpAny (model X.prog X.w) X.A (pyIter v) (PIE X pins σ (.Tuple elts kk tpos) R) X.xe s1) X.xe s1) ?_ (fun v s1 h1 => Calls.spliced_nil h1) fun _ _ e => e)) rfl rfl))
  show wpAny _ _ (eval (.Call (.Name "zip" p') [e, e2] [] pos') X.env) _ _ _
  refine Call_ (ld_blt I hg hm PyProof.Rows.boot_zip (PyProof.Rows.callWith_type1 (thn (ha.run pos' pins s σ H _ I h) fun us s1 ⟨vs, H1, I1, r1, q1⟩ => ?_) hs hpl))
  obtain ⟨a, b, xs, ys, ex, q1⟩ := q1
  subst ex
  cases r1 with
  | cons r rr =>
    cases rr with
    | cons r' rr =>
      cases rr
      cases r
      cases r'
      have fresh6 : ∀ c, c ∈ [s1.heap.objs.size + 5, s1.heap.objs.size + 4, s1.heap.objs.size + 2, s1.heap.objs.size + 3, s1.heap.objs.size, s1.heap.objs.size + 1] → FpOk X pins H1 c := fun c hcm => by
        have hle : s1.heap.objs.size ≤ c := by
          simp only [List.mem_cons, List.not_mem_nil, or_false] at hcm
          rcases hcm with z | z | z | z | z | z
          · rw [z]; exact Nat.le_add_right _ _
          · rw [z]; exact Nat.le_add_right _ _
          · rw [z]; exact Nat.le_add_right _ _
          · rw [z]; exact Nat.le_add_right _ _
          · rw [z]; exact Nat.le_refl _
          · rw [z]; exact Nat.le_add_right _ _
        exact I1.fpOk hle (I1.hok.fresh hle)
      have offn : ∀ I a b : Nat, a < I → b < I → I + 5 ∉ (I + 4) :: (I + 2) :: (I + 3) :: ([I, a] ++ [I + 1, b]) := fun I a b h1 h2 q => by
        simp only [List.mem_cons, List.mem_append, List.not_mem_nil, or_false] at q
        omega
      have neq : ∀ x y : Nat, x < y → x ≠ y := fun x y h => Nat.ne_of_lt h
      rcases q1 with ⟨hqx, hqy, q⟩ | ⟨hqx, hqy, q⟩
      · obtain ⟨its, rv, p1, _⟩ := I1.list hqx
        obtain ⟨its2, rv2, p2, _⟩ := I1.list hqy
        refine call_zip_2 p1.isList p2.isList fun h' hz hTI hTO h1 h2 hsz hk => ?_
        refine call_ez (s := { s1 with heap := h' }) hz fun h'' he hsz2 hk2 => wpAny_pyIter_enum he ?_
        have I2 : Inv X pins σ H1 { s1 with heap := h'' } := I1.kept (t' := s1.toks) fun c o e => hk2 c o (hk c o e)
        have sz : (Shared.heap { s1 with heap := h' }).objs.size = s1.heap.objs.size + 5 := hsz
        rw [sz] at he ⊢
        refine ⟨s1.heap.objs.size + 5, [s1.heap.objs.size + 5, s1.heap.objs.size + 4, s1.heap.objs.size + 2, s1.heap.objs.size + 3, s1.heap.objs.size, s1.heap.objs.size + 1], _, _, H1, rfl, I2,
          turn_ezL (apart2 s1.heap.objs.size a b p1.lt p2.lt) (neq _ _ p1.lt) (neq _ _ (Nat.lt_succ_of_lt p2.lt)) (offn _ _ _ p1.lt p2.lt), ⟨⟨_, he⟩, ⟨_, _, hk2 _ _ hz, .inl rfl⟩, hk2 _ _ hTI, ⟨_, _, hk2 _ _ hTO⟩, h1.at fun o e => hk2 _ o e, h2.at fun o e => hk2 _ o e⟩, fresh6, q⟩
      · obtain ⟨its, rv, p1, _⟩ := I1.tuple hqx
        obtain ⟨its2, rv2, p2, _⟩ := I1.tuple hqy
        obtain ⟨o1, ho1, _⟩ := id p1
        obtain ⟨o2, ho2, _⟩ := id p2
        have l1 := Heap.lt_size ho1
        have l2 := Heap.lt_size ho2
        refine RZ.call_zipT (show s1.heap.IsTuple a its.toArray from p1) (show s1.heap.IsTuple b its2.toArray from p2) fun h' hz hTI hTO h1 h2 hsz hk => ?_
        refine call_ez (s := { s1 with heap := h' }) hz fun h'' he hsz2 hk2 => wpAny_pyIter_enum he ?_
        have I2 : Inv X pins σ H1 { s1 with heap := h'' } := I1.kept (t' := s1.toks) fun c o e => hk2 c o (hk c o e)
        have sz : (Shared.heap { s1 with heap := h' }).objs.size = s1.heap.objs.size + 5 := hsz
        rw [sz] at he ⊢
        refine ⟨s1.heap.objs.size + 5, [s1.heap.objs.size + 5, s1.heap.objs.size + 4, s1.heap.objs.size + 2, s1.heap.objs.size + 3, s1.heap.objs.size, s1.heap.objs.size + 1], _, _, H1, rfl, I2,
          turn_ezT (apart2 s1.heap.objs.size a b l1 l2) (neq _ _ l1) (neq _ _ (Nat.lt_succ_of_lt l2)) (offn _ _ _ l1 l2), ⟨⟨_, he⟩, ⟨_, _, hk2 _ _ hz, .inl rfl⟩, hk2 _ _ hTI, ⟨_, _, hk2 _ _ hTO⟩, h1.at fun o e => hk2 _ o e, h2.at fun o e => hk2 _ o e⟩, fresh6, q⟩
end EZ
namespace Di
open PySem PySem.Spec PyProof.Rows L2
/-! ## names set -/
section
variable {c : Ct} {σ : L2.St} {H H' : Hp} {r r' : En}
theorem setN_spec {i : Nat} {s : Sl} (h : setN r i s = some r') : i < r.length ∧ r' = r.set i s ∧ ∀ d, slot r i ≠ .rf d := by
  unfold setN at h
  cases q : slot r i <;> rw [q] at h <;> simp only at h <;> first | (cases h; done) | skip
  all_goals
    split at h
    · cases h; exact ⟨by assumption, rfl, fun d e => by cases e⟩
    · cases h
theorem st_get {σ : L2.St} {i j : Nat} {v : Option V} (h : i < σ.length) : (σ.set i v)[j]? = if j = i then some v else σ[j]? := by
  by_cases e : j = i
  · subst e; rw [if_pos rfl, List.getElem?_set_self h]
  · rw [if_neg e, List.getElem?_set_ne (fun q => e q.symm)]
/-- a slot that is no lent one is given shared data, or nothing -/
theorem Er.setsh (E : Er c H σ r) {i : Nat} {s : Sl} {v : Option V} (hi : i < r.length) (nr : ∀ d, slot r i ≠ .rf d) (hs : s = .un ∨ ∃ d x, s = .sh d ∧ v = some x ∧ Rp c.K H (Av' c r) x d) : Er c H (σ.set i v) (r.set i s) ∧ (∀ a, Av' c r a → Av' c (r.set i s) a) := by
  have sl : ∀ j, slot (r.set i s) j = if j = i then s else slot r j := fun j => slot_set hi
  have sg : ∀ j, (σ.set i v)[j]? = if j = i then some v else σ[j]? := fun j => st_get (by rw [E.len]; exact hi)
  have so : s.own = false := by rcases hs with h | ⟨d, x, h, _⟩ <;> rw [h] <;> rfl
  have own : ∀ j, (slot (r.set i s) j).own = true → j ≠ i ∧ (slot r j).own = true := fun j h => by
    rw [sl] at h
    by_cases e : j = i
    · rw [if_pos e, so] at h; cases h
    · rw [if_neg e] at h; exact ⟨e, h⟩
  have av : ∀ a, Av' c r a → Av' c (r.set i s) a := fun a q => ⟨q.1, fun j hj => q.2 j (own j hj).2⟩
  refine ⟨⟨by rw [List.length_set, List.length_set]; exact E.len, E.keep, fun j x hx => ?_, fun j x hx hd => ?_, fun j x hx => ?_, fun j x hx => ?_, fun j l hj hl => E.inj j l (own j hj).2 (own l hl).2, fun p hp => ?_, E.new⟩, av⟩
  · rw [sl] at hx
    by_cases e : j = i
    · rw [if_pos e] at hx
      rcases hs with h | ⟨d, y, h, hv, rp⟩
      · rw [h] at hx; cases hx
      · rw [h] at hx; cases hx
        exact ⟨y, by rw [sg, if_pos e, hv], rp.mono (Kp.refl _ _) av⟩
    · rw [if_neg e] at hx
      obtain ⟨y, hy, g⟩ := E.sh j x hx
      exact ⟨y, by rw [sg, if_neg e]; exact hy, g.mono (Kp.refl _ _) av⟩
  · obtain ⟨e, ho⟩ := own j hx
    rw [sl, if_neg e] at hd
    obtain ⟨hv, w⟩ := E.on j x ho hd
    exact ⟨by rw [sg, if_neg e]; exact hv, w.mono (fun _ q => q) (Kp.refl _ _) av⟩
  · rw [sl] at hx
    by_cases e : j = i
    · rw [if_pos e] at hx; rw [hx] at so; cases so
    · rw [if_neg e] at hx; exact E.ow j x hx
  · rw [sl] at hx
    by_cases e : j = i
    · rw [if_pos e] at hx; rw [hx] at so; cases so
    · rw [if_neg e] at hx; exact E.rf j x hx
  · obtain ⟨e1, y, hy⟩ := E.lent p hp
    refine ⟨e1, y, ?_⟩
    rw [sl]
    by_cases e : p.1 = i
    · rw [e] at hy; exact absurd hy (nr y)
    · rw [if_neg e]; exact hy
/-- names as a target's reading -/
def gNms : List Nat → TGs
  | [] => gNil
  | i :: is => gCons (gName i) (gNms is)
def tgG (K : PySem.W.Frag) : Tg → TG
  | .n i => gName i
  | .t is => gSeq K is.length (gNms is)
  | .p i j k => gTup K 2 (gCons (gName i) (gCons (gTup K 2 (gNms [j, k])) gNil))
theorem asgL_ok : ∀ {is : List Nat} {ds : List PyData} {vs : List V} {σ : L2.St} {r r' : En} {Q : L2.St → Hp → Prop}, Er c H σ r → asgL is ds r = some r' → RpL c.K H (Av' c r) vs ds → (∀ σ', Er c H σ' r' → σ'.length = σ.length → (∀ j, j ∉ is → σ'[j]? = σ[j]?) → (∀ a, Av' c r a → Av' c r' a) → Q σ' H) → gNms is vs σ H Q
  | [], [], vs, σ, r, r', Q, E, e, g, q => by cases e; cases g; exact ⟨rfl, q σ E rfl (fun _ _ => rfl) fun _ h => h⟩
  | i :: is, d :: ds, vs, σ, r, r', Q, E, e, g, q => by
    cases g with
    | cons h g =>
      simp only [asgL] at e
      cases z : setN r i (.sh d) with
      | none => rw [z] at e; cases e
      | some r1 =>
        rw [z] at e
        obtain ⟨hi, e1, nr⟩ := setN_spec z
        subst e1
        obtain ⟨E1, av⟩ := E.setsh (v := some _) hi nr (.inr ⟨d, _, rfl, rfl, h⟩)
        refine ⟨_, _, rfl, asgL_ok E1 e (g.mono (Kp.refl _ _) av) fun σ' E' l' o' av' => q σ' E' (by rw [l', List.length_set]) (fun j hj => ?_) fun a h => av' a (av a h)⟩
        simp only [List.mem_cons, not_or] at hj
        rw [o' j hj.2, List.getElem?_set_ne (fun q => hj.1 q.symm)]
  | [], _ :: _, _, _, _, _, _, _, e, _, _ => by cases e
  | _ :: _, [], _, _, _, _, _, _, e, _, _ => by cases e
theorem asgT_ok {t : Tg} {d : PyData} {v : V} {Q : L2.St → Hp → Prop} (E : Er c H σ r) (e : asgT t d r = some r') (g : Rp c.K H (Av' c r) v d)
    (q : ∀ σ', Er c H σ' r' → σ'.length = σ.length → (∀ j, j ∉ t.slots → σ'[j]? = σ[j]?) → (∀ a, Av' c r a → Av' c r' a) → Q σ' H) : tgG c.K t v σ H Q := by
  cases t with
  | n i =>
    obtain ⟨hi, e1, nr⟩ := setN_spec e
    subst e1
    obtain ⟨E1, av⟩ := E.setsh (v := some v) hi nr (.inr ⟨d, v, rfl, rfl, g⟩)
    exact q _ E1 (by rw [List.length_set]) (fun j hj => by
      simp only [Tg.slots, List.mem_singleton] at hj
      rw [List.getElem?_set_ne (fun q => hj q.symm)]) av
  | t is =>
    have hlen : ∀ {is : List Nat} {ds : List PyData} {r : En}, asgL is ds r = some r' → is.length = ds.length := by
      intro is
      induction is with
      | nil => intro ds r e; cases ds <;> cases e; rfl
      | cons i is ih =>
        intro ds r e
        cases ds with
        | nil => cases e
        | cons d ds =>
          simp only [asgL] at e
          split at e
          · simp [ih e]
          · cases e
    cases d <;> simp only [asgT] at e <;> first | (cases e; done) | skip
    · cases g with
      | lst l g => exact ⟨_, _, rfl, .inr l.lv.sq, by rw [g.length, hlen e], asgL_ok E e g q⟩
    · cases g with
      | tup l g => exact ⟨_, _, rfl, .inl l.sq, by rw [g.length, hlen e], asgL_ok E e g q⟩
  | p i0 j0 k0 =>
    unfold asgT at e
    simp only at e
    split at e
    · rename_i d0 d1 d2
      cases g with
      | tup l g =>
        cases g with
        | cons g0 g =>
          cases g with
          | cons g1 gn =>
            cases gn
            cases g1 with
            | tup l1 g1 =>
              unfold asgL at e
              cases z : setN r i0 (.sh d0) with
              | none => rw [z] at e; cases e
              | some r1 =>
                rw [z] at e
                simp only at e
                obtain ⟨hi, e1, nr⟩ := setN_spec z
                subst e1
                obtain ⟨E1, av⟩ := E.setsh (v := some _) hi nr (.inr ⟨d0, _, rfl, rfl, g0⟩)
                refine ⟨_, _, rfl, l.sq, rfl, _, _, rfl, _, _, rfl, _, _, rfl, l1.sq, g1.length, asgL_ok E1 e (g1.mono (Kp.refl _ _) av) fun σ' E' l' o' av' => ⟨rfl, q σ' E' (by rw [l', List.length_set]) (fun j hj => ?_) fun a h => av' a (av a h)⟩⟩
                simp only [Tg.slots, List.mem_cons, List.not_mem_nil, or_false, not_or] at hj
                rw [o' j (by simp [hj.2.1, hj.2.2]), List.getElem?_set_ne (fun q => hj.1 q.symm)]
    · cases e
/-- a comprehension's names hold nothing -/
theorem wipeE_ok : ∀ {is : List Nat} {r r' : En}, wipeE r is = some r' → Er c H σ r → Er c H (wipe σ is) r' ∧ (∀ a, Av' c r' a ↔ Av' c r a) ∧ r'.length = r.length ∧ (∀ j, j ∉ is → slot r' j = slot r j) ∧ (∀ j, j ∈ is → slot r' j = .un) ∧ (∀ j, j ∈ is → (slot r j).own = false)
  | [], r, r', e, E => by cases e; exact ⟨E, fun _ => Iff.rfl, rfl, fun _ _ => rfl, (by simp), (by simp)⟩
  | i :: is, r, r', e, E => by
    simp only [wipeE] at e
    cases q : wipeE r is with
    | none => rw [q] at e; cases e
    | some r1 =>
      rw [q] at e
      simp only at e
      obtain ⟨E1, a1, l1, o1, u1, w1⟩ := wipeE_ok q E
      have no : (slot r1 i).own = false ∧ r' = r1.set i .un := by
        cases z : slot r1 i <;> rw [z] at e <;> simp only at e <;> cases e <;> exact ⟨rfl, rfl⟩
      obtain ⟨no, e⟩ := no
      subst e
      have nr : ∀ d, slot r1 i ≠ .rf d := fun d z => by rw [z] at no; cases no
      by_cases hi : i < r1.length
      · obtain ⟨E2, av⟩ := E1.setsh (v := none) hi nr (.inl rfl)
        have sl : ∀ j, slot (r1.set i .un) j = if j = i then .un else slot r1 j := fun j => slot_set hi
        refine ⟨E2, fun a => ⟨fun h => (a1 a).mp ⟨h.1, fun j hj => h.2 j ?_⟩, fun h => av a ((a1 a).mpr h)⟩, by rw [List.length_set]; exact l1, fun j hj => ?_, fun j hj => ?_, fun j hj => ?_⟩
        · rw [sl]
          by_cases z : j = i
          · rw [z, no] at hj; cases hj
          · rw [if_neg z]; exact hj
        · simp only [List.mem_cons, not_or] at hj
          rw [sl, if_neg hj.1, o1 j hj.2]
        · rw [sl]
          by_cases z : j = i
          · rw [if_pos z]
          · rw [if_neg z]
            exact u1 j (by rcases List.mem_cons.mp hj with h | h; exact absurd h z; exact h)
        · rcases List.mem_cons.mp hj with h | h
          · rw [h]
            by_cases m : i ∈ is
            · exact w1 i m
            · rw [← o1 i m]; exact no
          · exact w1 j h
      · have e2 : r1.set i .un = r1 := by rw [List.set_eq_of_length_le (by omega)]
        have e3 : wipe σ (i :: is) = wipe σ is := by
          show (wipe σ is).set i none = _
          rw [List.set_eq_of_length_le (by rw [E1.len]; omega)]
        rw [e2, e3]
        refine ⟨E1, a1, l1, fun j hj => o1 j (fun m => hj (by simp [m])), fun j hj => ?_, fun j hj => ?_⟩
        · rcases List.mem_cons.mp hj with h | h
          · rw [h]; unfold slot; rw [List.getElem?_eq_none (by omega)]; rfl
          · exact u1 j h
        · rcases List.mem_cons.mp hj with h | h
          · rw [h]; unfold slot; rw [List.getElem?_eq_none (by omega)]; rfl
          · exact w1 j h
theorem wipe_same {σ σ' : L2.St} : ∀ {is : List Nat}, σ'.length = σ.length → (∀ j, j ∉ is → σ'[j]? = σ[j]?) → wipe σ' is = wipe σ is := by
  intro is hl h
  have get : ∀ (τ : L2.St) (is : List Nat) (j : Nat), (wipe τ is)[j]? = if j ∈ is then (if j < τ.length then some none else none) else τ[j]? := by
    intro τ is
    induction is with
    | nil => intro j; simp [wipe]
    | cons i is ih =>
      intro j
      show ((wipe τ is).set i none)[j]? = _
      by_cases e : j = i
      · subst e
        rw [if_pos (by simp)]
        by_cases hj : j < τ.length
        · rw [List.getElem?_set_self (by rw [wipe_length]; exact hj), if_pos hj]
        · rw [List.getElem?_eq_none (by rw [List.length_set, wipe_length]; omega), if_neg hj]
      · rw [List.getElem?_set_ne (fun q => e q.symm), ih j]
        by_cases m : j ∈ is
        · have m' : j ∈ i :: is := by simp [m]
          rw [if_pos m, if_pos m']
        · have m' : ¬ j ∈ i :: is := by simp [m, e]
          rw [if_neg m, if_neg m']
  apply List.ext_getElem?
  intro j
  rw [get, get, hl]
  by_cases m : j ∈ is
  · rw [if_pos m, if_pos m]
  · rw [if_neg m, if_neg m, h j m]
theorem wipe_wipe (σ : L2.St) (is : List Nat) : wipe (wipe σ is) is = wipe σ is := by
  refine wipe_same (wipe_length σ is) fun j hj => ?_
  induction is with
  | nil => rfl
  | cons i is ih =>
    simp only [List.mem_cons, not_or] at hj
    show ((wipe σ is).set i none)[j]? = _
    rw [List.getElem?_set_ne (fun q => hj.1 q.symm), ih hj.2]
end
/-! ## what is walked -/
def SI (X : Cx) (tg iter : Expr) : TI := fun σ H R => ∀ pins s, Inv X pins σ H s → wpAny (model X.prog X.w) X.A (eval iter X.env) (fun v s1 => wpAny (model X.prog X.w) X.A (pyIter v) (PIE X pins σ tg R) X.xe s1) X.xe s
theorem si {X : Cx} (tg iter : Expr) : PI X tg iter (SI X tg iter) := ⟨fun pins s σ H R I h => h pins s I⟩
theorem SI.of {X : Cx} {tg iter : Expr} {t : TI} (h : PI X tg iter t) {σ : L2.St} {H : Hp} {R : L2.It → Hp → Prop} (q : t σ H R) : SI X tg iter σ H R := fun pins s I => h.run pins s σ H R I q
def JW (J : L2.It) (xs : List V) (G : Hp → Prop) : Prop := ∀ i H, G H → (∀ x, xs[i]? = some x → J.go i H ∧ ∀ y H', J.yld i H y H' → y = x ∧ H' = H) ∧ (xs.length ≤ i → J.stop i H)
theorem jw_list {K : PySem.W.Frag} {a : Addr} {xs : List V} : JW (Itl K a) xs (fun H => SqL K H a xs) := fun i H g =>
  ⟨fun x hx => ⟨⟨xs, x, g, hx⟩, fun y H' h => ⟨by have := h.2 xs g; rw [hx] at this; exact (Option.some.inj this).symm, h.1⟩⟩, fun h => ⟨xs, g, h⟩⟩
theorem jw_tup {K : PySem.W.Frag} {a : Addr} {xs : List V} : JW (Itt K a) xs (fun H => SqT K H a xs) := fun i H g =>
  ⟨fun x hx => ⟨⟨xs, x, g, hx⟩, fun y H' h => ⟨by have := h.2 xs g; rw [hx] at this; exact (Option.some.inj this).symm, h.1⟩⟩, fun h => ⟨xs, g, h⟩⟩
theorem jw_rng {a b : Int} : JW (Itr a (b - a).toNat) (rgV a b) (fun _ => True) := fun i H _ => by
  have hl := rgV_length a b
  refine ⟨fun x hx => ?_, fun h => by rw [hl] at h; exact h⟩
  have hi : i < (b - a).toNat := by rw [← hl]; exact (List.getElem?_eq_some_iff.mp hx).1
  refine ⟨hi, fun y H' h => ⟨?_, h.1⟩⟩
  unfold rgV at hx
  rw [List.getElem?_map, List.getElem?_range hi] at hx
  rw [h.2]
  exact Option.some.inj hx
theorem jw_str {x : Str} : JW (Its x) (x.cps.toList.map fun c => V.str ⟨#[c]⟩) (fun _ => True) := fun i H _ => by
  refine ⟨fun y hy => ?_, fun h => by
    show x.cps.size ≤ i
    simpa using h⟩
  rw [List.getElem?_map] at hy
  cases q : x.cps.toList[i]? with
  | none => rw [q] at hy; cases hy
  | some ch =>
    rw [q] at hy
    have q' : x.cps[i]? = some ch := by rw [← Array.getElem?_toList]; exact q
    refine ⟨(Array.getElem?_eq_some_iff.mp q').1, fun z H' h => ⟨?_, h.1⟩⟩
    obtain ⟨c', h1, h2⟩ := h.2
    rw [q'] at h1; cases h1
    rw [h2]; exact Option.some.inj hy
section
variable {K : PySem.W.Frag} {H : Hp} {P : Addr → Prop}
theorem rd_some {a : Addr} {u : HO} (q : Rd H a u) : ∃ o, H a = some o := by
  rcases q with q | ⟨o, q⟩
  · exact ⟨_, q⟩
  · exact ⟨_, q⟩
mutual
/-- what a value stands on is there -/
theorem Rp.live : ∀ {d : PyData} {v : V}, Rp K H P v d → Rp K H (fun a => P a ∧ ∃ o, H a = some o) v d
  | .none, _, .non => .non
  | .bool _, _, .bl b => .bl b
  | .int _, _, .int i => .int i
  | .str _, _, .str x => .str x
  | .list ds, _, .lst l g => .lst (match l with
    | .inl ⟨p, q⟩ => .inl ⟨⟨p, rd_some q⟩, q⟩
    | .inr q => .inr q) (RpL.live g)
  | .tuple ds, _, .tup l g => .tup (match l with
    | .inl ⟨p, q⟩ => .inl ⟨⟨p, rd_some q⟩, q⟩
    | .inr q => .inr q) (RpL.live g)
  | .dict ds, _, .dic p q g => .dic ⟨p, rd_some q⟩ q (RpD.live g)
theorem RpL.live : ∀ {ds : List PyData} {vs : List V}, RpL K H P vs ds → RpL K H (fun a => P a ∧ ∃ o, H a = some o) vs ds
  | [], _, .nil => .nil
  | _ :: _, _, .cons q g => .cons (Rp.live q) (RpL.live g)
theorem RpD.live : ∀ {ds : List (PyData × PyData)} {vs : List (Key × V)}, RpD K H P vs ds → RpD K H (fun a => P a ∧ ∃ o, H a = some o) vs ds
  | [], _, .nil => .nil
  | _ :: _, _, .cons q g => .cons (Rp.live q) (RpD.live g)
end
end
/-- what is walked: as long as G holds it goes on, gives the data in turn, ends behind them; a turn may lay new objects -/
def ri (c : Ct) : L2.It → Hp → En → List PyData → Prop := fun J H r ds => ∃ G : Hp → Prop, G H ∧ (∀ H'', Kp (Av' c r) H H'' → G H'') ∧
  ∀ i Hi, G Hi → (∀ d, ds[i]? = some d → J.go i Hi ∧ ∀ y Hy, J.yld i Hi y Hy → Ext Hi Hy ∧ ∀ P' : Addr → Prop, (∀ a, (Av' c r a ∧ ∃ o, H a = some o) → P' a) → (∀ a, Hi a = none → P' a) → Rp c.K Hy P' y d) ∧ (i = ds.length → J.stop i Hi)
theorem ri_old {c : Ct} {J : L2.It} {H : Hp} {r : En} {ds : List PyData} (h : ∃ xs G, RpL c.K H (Av' c r) xs ds ∧ G H ∧ (∀ H'', Kp (Av' c r) H H'' → G H'') ∧ JW J xs G) : ri c J H r ds := by
  obtain ⟨xs, G, gx, g0, gk, jw⟩ := h
  refine ⟨fun Hi => G Hi ∧ Kp (Av' c r) H Hi, ⟨g0, Kp.refl _ _⟩, fun H'' k => ⟨gk _ k, k⟩, fun i Hi gi => ⟨fun d hd => ?_, fun h => (jw i Hi gi.1).2 (by rw [gx.length]; exact Nat.le_of_eq h.symm)⟩⟩
  obtain ⟨x, hx, rx⟩ := gx.get hd
  obtain ⟨jgo, jyld⟩ := (jw i Hi gi.1).1 x hx
  refine ⟨jgo, fun y Hy hy => ?_⟩
  obtain ⟨rfl, rfl⟩ := jyld y Hy hy
  exact ⟨Ext.refl _, fun P' s _ => rx.live.mono (fun a o p e => gi.2 a o p.1 e) s⟩
section
variable {X : Cx} {cm : Nat → Value} {sg : List Sig} {tb : List Fn} {gs : List (Str × PyData)} {k : Nat}
def SndI (X : Cx) (cm : Nat → Value) (tb : List Fn) (it : Di.It) (tg iter : Expr) : Prop :=
  ∀ (c : Ct) (r : En) (σ : L2.St) (H : Hp) (R : L2.It → Hp → Prop), c.K = X.K → c.cm = cm → Takes X c.W → Er c H σ r → Post c σ (ri c) r H R (evi tb it r) → SI X tg iter σ H R
theorem rgD_62 {x y : PyData} {ds : List PyData} (e : rg62 x y = some ds) : ∃ i j, x = .int i ∧ y = .int j ∧ (-(2 ^ 62) ≤ i ∧ i < 2 ^ 62 ∧ -(2 ^ 62) ≤ j ∧ j < 2 ^ 62) ∧ ds = rgD i j := by
  cases x <;> cases y <;> simp only [rg62] at e <;> first | (cases e; done) | skip
  split at e
  · rename_i h; cases e; exact ⟨_, _, rfl, rfl, h, rfl⟩
  · cases e
theorem chars_rel {K : PySem.W.Frag} {H : Hp} {P : Addr → Prop} : ∀ l : List Nat, RpL K H P (l.map fun c => V.str ⟨#[c]⟩) (l.map fun c => PyData.str ⟨#[c]⟩)
  | [] => .nil
  | _ :: l => .cons (.str _) (chars_rel l)
theorem sndi_e {a : E} {tg ea : Expr} (ha : Snd X cm tb a ea) : SndI X cm tb (.e a) tg ea := by
  intro c r σ H R hK hcm tk E h
  unfold evi at h
  -- which kind it is, is known ahead
  cases q : ev tb a r with
  | st => rw [q] at h; exact h.elim
  | ex e r1 =>
    rw [q] at h
    exact SI.of (pi_list (se ea)) (ha c r σ H _ hK hcm tk E (by rw [q]; exact h))
  | ok x r1 =>
    rw [q] at h
    simp only [Di.R.bind_ok] at h
    have hb : Post c σ (ri c) r H R ((ev tb a r).bind fun x r => (cap x r).bind fun d r => (lift (itD r d) r).bind fun xs r => .ok xs r) := by rw [q]; exact h
    cases q2 : cap x r1 with
    | st => rw [q2] at h; exact h.elim
    | ex e r2 =>
      exfalso
      cases x with
      | d d => cases q2
      | f d => cases q2
      | o i =>
        unfold cap at q2
        simp only at q2
        split at q2 <;> cases q2
    | ok d r2 =>
      have fin : ∀ (v : V) (H1 : Hp), Er c H1 σ r1 → Kp (Av' c r) H H1 → Up r r1 → rv c σ v H1 r1 x → Post c σ (ri c) r1 H1 R ((cap x r1).bind fun d r => (lift (itD r d) r).bind fun xs r => .ok xs r) →
          ∃ ds, itD r2 d = some ds ∧ Er c H1 σ r2 ∧ Rp c.K H1 (Av' c r2) v d ∧ Post c σ (ri c) r2 H1 R (.ok ds r2) := by
        intro v H1 E1 k1 u1 q1 h1
        obtain ⟨d', r2', e1, E2, u2, rp, h2⟩ := cap_ok E1 q1 h1
        rw [q2] at e1; cases e1
        obtain ⟨ds, e2, h3⟩ := h2.lift
        exact ⟨ds, e2, E2, rp, h3⟩
      have inj : ∀ {x' : Vl} {r' : En}, ev tb a r = .ok x' r' → x' = x ∧ r' = r1 := fun e => by rw [q] at e; cases e; exact ⟨rfl, rfl⟩
      cases d with
      | list ds =>
        refine SI.of (pi_list (se ea)) (ha c r σ H _ hK hcm tk E (hb.bind fun x' r1' ex v H1 E1 k1 u1 q1 h1 => ?_))
        obtain ⟨rfl, rfl⟩ := inj ex
        obtain ⟨ds', e2, E2, rp, h3⟩ := fin v H1 E1 k1 u1 q1 h1
        cases e2
        cases rp with
        | lst l g =>
          rename_i a0 xs0
          refine ⟨a0, rfl, ⟨xs0, hK ▸ l.lv.sq⟩, h3.ok E2 (Ext.refl _) (ri_old ⟨xs0, fun H => SqL c.K H a0 xs0, g, l.lv.sq, fun H'' k => (l.mono k fun _ p => p).lv.sq, ?_⟩)⟩
          rw [← hK]; exact jw_list
      | tuple ds =>
        refine SI.of (pi_tup (se ea)) (ha c r σ H _ hK hcm tk E (hb.bind fun x' r1' ex v H1 E1 k1 u1 q1 h1 => ?_))
        obtain ⟨rfl, rfl⟩ := inj ex
        obtain ⟨ds', e2, E2, rp, h3⟩ := fin v H1 E1 k1 u1 q1 h1
        cases e2
        cases rp with
        | tup l g =>
          rename_i a0 xs0
          refine ⟨a0, rfl, ⟨xs0, hK ▸ l.sq⟩, h3.ok E2 (Ext.refl _) (ri_old ⟨xs0, fun H => SqT c.K H a0 xs0, g, l.sq, fun H'' k => (l.mono k fun _ p => p).sq, ?_⟩)⟩
          rw [← hK]; exact jw_tup
      | str z =>
        refine SI.of (pi_str (se ea)) (ha c r σ H _ hK hcm tk E (hb.bind fun x' r1' ex v H1 E1 k1 u1 q1 h1 => ?_))
        obtain ⟨rfl, rfl⟩ := inj ex
        obtain ⟨ds', e2, E2, rp, h3⟩ := fin v H1 E1 k1 u1 q1 h1
        cases e2
        cases rp
        exact ⟨_, rfl, h3.ok E2 (Ext.refl _) (ri_old ⟨_, _, chars_rel _, trivial, fun _ _ => trivial, jw_str⟩)⟩
      | _ => rw [q2] at h; exact h.elim
theorem sndi_r1 {a : E} {tg ea : Expr} {p pos : Pos} (C : Cok X cm sg tb gs k) (ha : Snd X cm tb a ea) (hg : Gl X "range") (na : notStar ea = true) : SndI X cm tb (.r1 a) tg (.Call (.Name "range" p) [ea] [] pos) := by
  intro c r σ H R hK hcm tk E h
  unfold evi at h
  have na' := nostar (es := []) (env := X.env) na
  refine SI.of (pi_range1 hg (C.bl _ (by simp)) (pa_cons (se ea) pa_nil na') (by rw [na']; rfl)) ?_
  refine ha c r σ H _ hK hcm tk E (h.bind fun x r1 _ v H1 E1 k1 u1 q1 h1 => ?_)
  obtain ⟨d, ed, h2⟩ := h1.lift
  obtain ⟨ds, e2, h3⟩ := h2.lift
  have vx := RV.vw E1 q1.base ed
  obtain ⟨i, j, ei, ej, hb, rfl⟩ := rgD_62 e2
  cases ei
  subst ej
  cases vx
  refine ⟨j, rfl, hb.2.2.1, hb.2.2.2, h3.ok E1 (Ext.refl _) (ri_old ⟨_, _, rg_rel 0 j, trivial, fun _ _ => trivial, ?_⟩)⟩
  have := jw_rng (a := 0) (b := j)
  rwa [Int.sub_zero] at this
theorem sndi_r2 {a b : E} {tg ea eb : Expr} {p pos : Pos} (C : Cok X cm sg tb gs k) (ha : Snd X cm tb a ea) (hb : Snd X cm tb b eb) (hg : Gl X "range") (na : notStar ea = true) (nb : notStar eb = true) : SndI X cm tb (.r2 a b) tg (.Call (.Name "range" p) [ea, eb] [] pos) := by
  intro c r σ H R hK hcm tk E h
  unfold evi at h
  have nb' := nostar (es := []) (env := X.env) nb
  have na' := nostar (es := [eb]) (env := X.env) na
  refine SI.of (pi_range2 hg (C.bl _ (by simp)) (pa_cons (se ea) (pa_cons (se eb) pa_nil nb') na') (by rw [na', nb']; rfl) (by rw [nb']; rfl)) ?_
  refine ha c r σ H _ hK hcm tk E (h.bind fun x r1 _ v H1 E1 k1 u1 q1 h1 => ?_)
  refine hb c r1 σ H1 _ hK hcm tk E1 (h1.bind fun y r2 _ w H2 E2 k2 u2 q2 h2 => ?_)
  obtain ⟨dx, ex, h3⟩ := h2.lift
  obtain ⟨dy, ey, h4⟩ := h3.lift
  obtain ⟨ds, e2, h5⟩ := h4.lift
  have vx := RV.vw E2 (q1.mono k2 u2) ex
  have vy := RV.vw E2 q2.base ey
  obtain ⟨i, j, ei, ej, hb, rfl⟩ := rgD_62 e2
  subst ei ej
  cases vx
  cases vy
  exact ⟨i, j, rfl, hb, h5.ok E2 (Ext.refl _) (ri_old ⟨_, _, rg_rel i j, trivial, fun _ _ => trivial, jw_rng⟩)⟩
theorem zip_get {xs ys : List PyData} {i : Nat} {d : PyData} (h : (List.zipWith (fun x y => PyData.tuple [x, y]) xs ys)[i]? = some d) : ∃ x y, xs[i]? = some x ∧ ys[i]? = some y ∧ d = .tuple [x, y] := by
  rw [List.getElem?_zipWith] at h
  cases hx : xs[i]? with
  | none => rw [hx] at h; cases h
  | some x =>
    cases hy : ys[i]? with
    | none => rw [hx, hy] at h; cases h
    | some y => rw [hx, hy] at h; cases h; exact ⟨x, y, rfl, rfl, rfl⟩
theorem cap_nex {x : Vl} {r r' : En} {e : Xn} (h : cap x r = .ex e r') : False := by
  cases x with
  | d d => cases h
  | f d => cases h
  | o i =>
    unfold cap at h
    simp only at h
    split at h <;> cases h
theorem sndi_zip {a b : E} {ea eb : Expr} {p pos tpos : Pos} {elts : List Expr} {kk : Nat} (C : Cok X cm sg tb gs k) (ha : Snd X cm tb a ea) (hb : Snd X cm tb b eb) (hg : Gl X "zip") (na : notStar ea = true) (nb : notStar eb = true) : SndI X cm tb (.zip a b) (.Tuple elts kk tpos) (.Call (.Name "zip" p) [ea, eb] [] pos) := by
  intro c r σ H R hK hcm tk E h
  unfold evi at h
  have nb' := nostar (es := []) (env := X.env) nb
  have na' := nostar (es := [eb]) (env := X.env) na
  refine SI.of (RZ.pi_zipA hg (C.bl _ (by simp)) (pa_cons (se ea) (pa_cons (se eb) pa_nil nb') na') na' (by rw [nb']; rfl)) ?_
  refine ha c r σ H _ hK hcm tk E (h.bind fun x r1 _ v H1 E1 k1 u1 q1 h1 => ?_)
  refine hb c r1 σ H1 _ hK hcm tk E1 (h1.bind fun y r2 _ w H2 E2 k2 u2 q2 h2 => ?_)
  cases e1 : cap x r2 with
  | st => rw [e1] at h2; exact h2.elim
  | ex e r' => exact (cap_nex e1).elim
  | ok d r3 =>
    obtain ⟨E3, u3, rp1⟩ := ER.hold E2 (q1.mono k2 u2) e1
    rw [e1] at h2
    simp only [Di.R.bind_ok] at h2
    cases e2 : cap y r3 with
    | st => rw [e2] at h2; exact h2.elim
    | ex e r' => exact (cap_nex e2).elim
    | ok e r4 =>
      obtain ⟨E4, u4, rp2⟩ := ER.hold E3 (q2.base.mono (Kp.refl _ _) u3) e2
      rw [e2] at h2
      simp only [Di.R.bind_ok] at h2
      have rp1 : Rp c.K H2 (Av' c r4) v d := rp1.mono (Kp.refl _ _) fun a => u4.av
      obtain ⟨ds, ez, h3⟩ := h2.lift
      have fin : ∀ J, ri c J H2 r4 ds → R J H2 := fun J q => h3 J H2 E4 (Kp.refl _ _) (u3.trans u4) q
      cases rp1 <;> cases rp2 <;> simp only [zipD] at ez <;> first | (cases ez; done) | skip
      · cases ez
        rename_i a1 xs dx l1 g1 a2 ys dy l2 g2
        refine ⟨a1, a2, xs, ys, rfl, .inl ⟨hK ▸ l1.lv.sq, hK ▸ l2.lv.sq, fin _ ⟨fun Hi => Kp (Av' c r4) H2 Hi, Kp.refl _ _, fun H'' k => k, fun i Hi k => ?_⟩⟩⟩
        have s1 : SqL X.K Hi a1 xs := hK ▸ (l1.mono k fun _ p => p).lv.sq
        have s2 : SqL X.K Hi a2 ys := hK ▸ (l2.mono k fun _ p => p).lv.sq
        refine ⟨fun d hd => ?_, fun h => ⟨xs, ys, s1, s2, ?_⟩⟩
        · obtain ⟨x0, y0, hx, hy, rfl⟩ := zip_get hd
          obtain ⟨vx, hvx, rx⟩ := g1.get hx
          obtain ⟨vy, hvy, ry⟩ := g2.get hy
          refine ⟨⟨xs, ys, vx, vy, s1, s2, hvx, hvy⟩, fun z Hy hz => ?_⟩
          obtain ⟨T, x', y', rfl, hT, rfl, fx, fy⟩ := hz
          have q1 := fx xs s1
          have q2 := fy ys s2
          rw [hvx] at q1; cases q1
          rw [hvy] at q2; cases q2
          have kk : Kp (fun a => Av' c r4 a ∧ ∃ o, H2 a = some o) H2 (upd Hi T (.tup [vx, vy])) := fun a o p e => Ext.new hT _ _ (k a o p.1 e)
          exact ⟨Ext.new hT, fun P' s n => .tup (.inl ⟨n T hT, .inl upd_same⟩) (.cons (rx.live.mono kk s) (.cons (ry.live.mono kk s) .nil))⟩
        · rw [List.length_zipWith] at h
          rw [g1.length, g2.length]; omega
      · cases ez
        rename_i a1 xs dx l1 g1 a2 ys dy l2 g2
        refine ⟨a1, a2, xs, ys, rfl, .inr ⟨hK ▸ l1.sq, hK ▸ l2.sq, fin _ ⟨fun Hi => Kp (Av' c r4) H2 Hi, Kp.refl _ _, fun H'' k => k, fun i Hi k => ?_⟩⟩⟩
        have s1 : SqT X.K Hi a1 xs := hK ▸ (l1.mono k fun _ p => p).sq
        have s2 : SqT X.K Hi a2 ys := hK ▸ (l2.mono k fun _ p => p).sq
        refine ⟨fun d hd => ?_, fun h => ⟨xs, ys, s1, s2, ?_⟩⟩
        · obtain ⟨x0, y0, hx, hy, rfl⟩ := zip_get hd
          obtain ⟨vx, hvx, rx⟩ := g1.get hx
          obtain ⟨vy, hvy, ry⟩ := g2.get hy
          refine ⟨⟨xs, ys, vx, vy, s1, s2, hvx, hvy⟩, fun z Hy hz => ?_⟩
          obtain ⟨T, x', y', rfl, hT, rfl, fx, fy⟩ := hz
          have q1 := fx xs s1
          have q2 := fy ys s2
          rw [hvx] at q1; cases q1
          rw [hvy] at q2; cases q2
          have kk : Kp (fun a => Av' c r4 a ∧ ∃ o, H2 a = some o) H2 (upd Hi T (.tup [vx, vy])) := fun a o p e => Ext.new hT _ _ (k a o p.1 e)
          exact ⟨Ext.new hT, fun P' s n => .tup (.inl ⟨n T hT, .inl upd_same⟩) (.cons (rx.live.mono kk s) (.cons (ry.live.mono kk s) .nil))⟩
        · rw [List.length_zipWith] at h
          rw [g1.length, g2.length]; omega
theorem en_len : ∀ {n : Nat} {xs : List PyData}, (enD n xs).length = xs.length
  | _, [] => rfl
  | n, x :: xs => by rw [enD, List.length_cons, List.length_cons, en_len]
theorem en_get : ∀ {n : Nat} {xs : List PyData} {i : Nat} {d : PyData}, (enD n xs)[i]? = some d → ∃ x, xs[i]? = some x ∧ d = .tuple [.int ((n + i : Nat) : Int), x]
  | _, [], i, d, h => by cases h
  | n, x :: xs, 0, d, h => by
    rw [enD, List.getElem?_cons_zero] at h
    cases h
    exact ⟨x, rfl, rfl⟩
  | n, x :: xs, i + 1, d, h => by
    rw [enD, List.getElem?_cons_succ] at h
    obtain ⟨y, h1, h2⟩ := en_get h
    exact ⟨y, h1, by rw [h2, show n + 1 + i = n + (i + 1) by omega]⟩
theorem sndi_ez {a b : E} {ea eb : Expr} {p p' pos pos' tpos : Pos} {elts : List Expr} {kk : Nat} (C : Cok X cm sg tb gs k) (ha : Snd X cm tb a ea) (hb : Snd X cm tb b eb) (hg1 : Gl X "enumerate") (hg : Gl X "zip") (na : notStar ea = true) (nb : notStar eb = true) : SndI X cm tb (.ez a b) (.Tuple elts kk tpos) (.Call (.Name "enumerate" p) [.Call (.Name "zip" p') [ea, eb] [] pos'] [] pos) := by
  intro c r σ H R hK hcm tk E h
  unfold evi at h
  have nb' := nostar (es := []) (env := X.env) nb
  have na' := nostar (es := [eb]) (env := X.env) na
  refine SI.of (EZ.pi_ez hg1 (C.bl _ (by simp)) hg (C.bl _ (by simp)) (pa_cons (se ea) (pa_cons (se eb) pa_nil nb') na') na' (by rw [nb']; rfl)) ?_
  refine ha c r σ H _ hK hcm tk E (h.bind fun x r1 _ v H1 E1 k1 u1 q1 h1 => ?_)
  refine hb c r1 σ H1 _ hK hcm tk E1 (h1.bind fun y r2 _ w H2 E2 k2 u2 q2 h2 => ?_)
  cases e1 : cap x r2 with
  | st => rw [e1] at h2; exact h2.elim
  | ex e r' => exact (cap_nex e1).elim
  | ok d r3 =>
    obtain ⟨E3, u3, rp1⟩ := ER.hold E2 (q1.mono k2 u2) e1
    rw [e1] at h2
    simp only [Di.R.bind_ok] at h2
    cases e2 : cap y r3 with
    | st => rw [e2] at h2; exact h2.elim
    | ex e r' => exact (cap_nex e2).elim
    | ok e r4 =>
      obtain ⟨E4, u4, rp2⟩ := ER.hold E3 (q2.base.mono (Kp.refl _ _) u3) e2
      rw [e2] at h2
      simp only [Di.R.bind_ok] at h2
      have rp1 : Rp c.K H2 (Av' c r4) v d := rp1.mono (Kp.refl _ _) fun a => u4.av
      obtain ⟨ds, ez, h3⟩ := h2.lift
      have fin : ∀ J, ri c J H2 r4 ds → R J H2 := fun J q => h3 J H2 E4 (Kp.refl _ _) (u3.trans u4) q
      cases rp1 <;> cases rp2 <;> simp only [ezD, zipD, Option.map_some, Option.map_none] at ez <;> first | (cases ez; done) | skip
      · cases ez
        rename_i a1 xs dx l1 g1 a2 ys dy l2 g2
        refine ⟨a1, a2, xs, ys, rfl, .inl ⟨hK ▸ l1.lv.sq, hK ▸ l2.lv.sq, fin _ ⟨fun Hi => Kp (Av' c r4) H2 Hi, Kp.refl _ _, fun H'' k => k, fun i Hi k => ?_⟩⟩⟩
        have s1 : SqL X.K Hi a1 xs := hK ▸ (l1.mono k fun _ p => p).lv.sq
        have s2 : SqL X.K Hi a2 ys := hK ▸ (l2.mono k fun _ p => p).lv.sq
        refine ⟨fun d hd => ?_, fun h => ⟨xs, ys, s1, s2, ?_⟩⟩
        · obtain ⟨d', hd', rfl⟩ := en_get hd
          obtain ⟨x0, y0, hx, hy, rfl⟩ := zip_get hd'
          obtain ⟨vx, hvx, rx⟩ := g1.get hx
          obtain ⟨vy, hvy, ry⟩ := g2.get hy
          refine ⟨⟨xs, ys, vx, vy, s1, s2, hvx, hvy⟩, fun z Hy hz => ?_⟩
          obtain ⟨T1, T, x', y', rfl, hT1, hT, neT, rfl, fx, fy⟩ := hz
          have q1 := fx xs s1
          have q2 := fy ys s2
          rw [hvx] at q1; cases q1
          rw [hvy] at q2; cases q2
          have hT' : upd Hi T1 (.tup [vx, vy]) T = none := by rw [upd_ne neT]; exact hT
          have ex : Ext Hi (upd (upd Hi T1 (.tup [vx, vy])) T (.tup [.int (i : Nat), .ref T1])) := (Ext.new hT1).trans (Ext.new hT')
          have kk : Kp (fun a => Av' c r4 a ∧ ∃ o, H2 a = some o) H2 (upd (upd Hi T1 (.tup [vx, vy])) T (.tup [.int (i : Nat), .ref T1])) := fun a o p e => ex _ _ (k a o p.1 e)
          have l1 : upd (upd Hi T1 (.tup [vx, vy])) T (.tup [.int (i : Nat), .ref T1]) T1 = some (.tup [vx, vy]) := by rw [upd_ne (Ne.symm neT)]; exact upd_same
          rw [Nat.zero_add]
          exact ⟨ex, fun P' s n => .tup (.inl ⟨n T hT, .inl upd_same⟩) (.cons (.int _) (.cons (.tup (.inl ⟨n T1 hT1, .inl l1⟩) (.cons (rx.live.mono kk s) (.cons (ry.live.mono kk s) .nil))) .nil))⟩
        · rw [en_len, List.length_zipWith] at h
          rw [g1.length, g2.length]; omega
      · cases ez
        rename_i a1 xs dx l1 g1 a2 ys dy l2 g2
        refine ⟨a1, a2, xs, ys, rfl, .inr ⟨hK ▸ l1.sq, hK ▸ l2.sq, fin _ ⟨fun Hi => Kp (Av' c r4) H2 Hi, Kp.refl _ _, fun H'' k => k, fun i Hi k => ?_⟩⟩⟩
        have s1 : SqT X.K Hi a1 xs := hK ▸ (l1.mono k fun _ p => p).sq
        have s2 : SqT X.K Hi a2 ys := hK ▸ (l2.mono k fun _ p => p).sq
        refine ⟨fun d hd => ?_, fun h => ⟨xs, ys, s1, s2, ?_⟩⟩
        · obtain ⟨d', hd', rfl⟩ := en_get hd
          obtain ⟨x0, y0, hx, hy, rfl⟩ := zip_get hd'
          obtain ⟨vx, hvx, rx⟩ := g1.get hx
          obtain ⟨vy, hvy, ry⟩ := g2.get hy
          refine ⟨⟨xs, ys, vx, vy, s1, s2, hvx, hvy⟩, fun z Hy hz => ?_⟩
          obtain ⟨T1, T, x', y', rfl, hT1, hT, neT, rfl, fx, fy⟩ := hz
          have q1 := fx xs s1
          have q2 := fy ys s2
          rw [hvx] at q1; cases q1
          rw [hvy] at q2; cases q2
          have hT' : upd Hi T1 (.tup [vx, vy]) T = none := by rw [upd_ne neT]; exact hT
          have ex : Ext Hi (upd (upd Hi T1 (.tup [vx, vy])) T (.tup [.int (i : Nat), .ref T1])) := (Ext.new hT1).trans (Ext.new hT')
          have kk : Kp (fun a => Av' c r4 a ∧ ∃ o, H2 a = some o) H2 (upd (upd Hi T1 (.tup [vx, vy])) T (.tup [.int (i : Nat), .ref T1])) := fun a o p e => ex _ _ (k a o p.1 e)
          have l1 : upd (upd Hi T1 (.tup [vx, vy])) T (.tup [.int (i : Nat), .ref T1]) T1 = some (.tup [vx, vy]) := by rw [upd_ne (Ne.symm neT)]; exact upd_same
          rw [Nat.zero_add]
          exact ⟨ex, fun P' s n => .tup (.inl ⟨n T hT, .inl upd_same⟩) (.cons (.int _) (.cons (.tup (.inl ⟨n T1 hT1, .inl l1⟩) (.cons (rx.live.mono kk s) (.cons (ry.live.mono kk s) .nil))) .nil))⟩
        · rw [en_len, List.length_zipWith] at h
          rw [g1.length, g2.length]; omega
end
end Di
namespace Di
open PySem PySem.Spec PyProof.Rows L2
section
variable {X : Cx} {cm : Nat → Value} {sg : List Sig} {tb : List Fn} {gs : List (Str × PyData)} {k : Nat}
theorem popD_ok {d : PyData} {n m : Nat} (h : popD d n = some m) : ∃ j : Int, d = .int j ∧ 0 ≤ j ∧ j < 2 ^ 63 ∧ seqIndex? j n = some m := by
  unfold popD at h
  split at h
  · rename_i j
    split at h
    · rename_i q
      cases h
      refine ⟨j, rfl, q.1, by omega, ?_⟩
      have e : (if j < 0 then j + (n : Int) else j) = j := if_neg (by omega)
      show (if (decide (0 ≤ if j < 0 then j + (n : Int) else j) && decide ((if j < 0 then j + (n : Int) else j) < n)) = true then some (if j < 0 then j + (n : Int) else j).toNat else none) = _
      rw [e, decide_eq_true q.1, decide_eq_true q.2.1]
      rfl
    · cases h
  · cases h
theorem RpL.erase {K : PySem.W.Frag} {H : Hp} {P : Addr → Prop} {vs : List V} {ds : List PyData} (g : RpL K H P vs ds) (m : Nat) : RpL K H P (vs.eraseIdx m) (ds.eraseIdx m) := by
  rw [List.eraseIdx_eq_take_drop_succ, List.eraseIdx_eq_take_drop_succ]
  exact (g.take m).append (g.drop (m + 1))
theorem snd_popi {i : Nat} {a : E} {x : Str} {ea : Expr} {p p1 p2 : Pos} (hv : PE X (.Name x p) (tVar i)) (ha : Snd X cm tb a ea) (hl : (p1.endLine == p2.line) = true) (na : notStar ea = true) :
    Snd X cm tb (.popi i a) (.Call (.Attribute (.Name x p) "pop" p1) [ea] [] p2) := by
  intro c r σ H Q hK hcm tk E h
  unfold ev at h
  obtain ⟨xs0, e0, h⟩ := h.lift
  obtain ⟨o1, o2⟩ := ownL_own e0
  obtain ⟨hσ, vs0, hw0, _⟩ := own_list E o1 o2
  refine SE.of (pe_bm PySem.F.plainAttrs_list PySem.F.slot_list_pop PySem.F.type_list_pop mt_popAt hv (pa_cons (se ea) pa_nil (nostar na)) base_name (by rw [nostar na]; rfl) hl (nostar na) (by rfl)) ?_
  refine ⟨_, hσ, Or.inl ⟨rfl, _, .inl (.inl hw0)⟩, ?_⟩
  refine ha c r σ H _ hK hcm tk E (h.bind fun x r1 _ v H1 E1 k1 u1 q1 h1 => ?_)
  obtain ⟨d, ed, h2⟩ := h1.lift
  have vx := RV.vw E1 q1.base ed
  obtain ⟨xs, e3, h3⟩ := h2.lift
  obtain ⟨o3, o4⟩ := ownL_own e3
  obtain ⟨_, vs, hw, g⟩ := own_list E1 o3 o4
  obtain ⟨m, em, h4⟩ := h3.lift
  obtain ⟨y, ey, h5⟩ := h4.lift
  obtain ⟨j, rfl, j0, j1, js⟩ := popD_ok em
  cases vx
  obtain ⟨w, ew, rp⟩ := g.get ey
  refine ⟨_, vs, j, m, w, rfl, rfl, hw, by omega, j1, by rw [g.length]; exact js, ew, ?_⟩
  exact post_chg (γ := Unit) E1 o3 (g.erase m) rp h5
theorem jw_rvr {j : Int} : JW (Itc (0 + (((j - 0).toNat : Nat) : Int) - 1) (-1) (j - 0).toNat) (rgV 0 j).reverse (fun _ => True) := fun i H _ => by
  have len : (rgV 0 j).length = (j - 0).toNat := by unfold rgV; simp
  refine ⟨fun x hx => ?_, fun h => ?_⟩
  · have hi : i < (j - 0).toNat := by
      have := (List.getElem?_eq_some_iff.mp hx).1
      rw [List.length_reverse, len] at this
      exact this
    refine ⟨hi, fun y H' hy => ?_⟩
    obtain ⟨rfl, rfl⟩ := hy
    refine ⟨?_, rfl⟩
    rw [List.getElem?_reverse (by rw [len]; exact hi), len] at hx
    unfold rgV at hx
    rw [List.getElem?_map, List.getElem?_range (by omega)] at hx
    cases hx
    congr 1
    omega
  · rw [List.length_reverse, len] at h
    exact h
theorem RpL.rev {K : PySem.W.Frag} {H : Hp} {P : Addr → Prop} : ∀ {vs : List V} {ds : List PyData}, RpL K H P vs ds → RpL K H P vs.reverse ds.reverse
  | _, _, .nil => .nil
  | _, _, .cons h g => by
    rw [List.reverse_cons, List.reverse_cons]
    exact (RpL.rev g).append (.cons h .nil)
theorem sndi_rvr {a : E} {tg ea : Expr} {p p' pos pos' : Pos} (C : Cok X cm sg tb gs k) (ha : Snd X cm tb a ea) (hg1 : Gl X "reversed") (hg : Gl X "range") (na : notStar ea = true) : SndI X cm tb (.rvr a) tg (.Call (.Name "reversed" p) [.Call (.Name "range" p') [ea] [] pos'] [] pos) := by
  intro c r σ H R hK hcm tk E h
  unfold evi at h
  have na' := nostar (es := []) (env := X.env) na
  refine SI.of (pi_revR hg1 (C.bl _ (by simp)) (prg_1 hg (C.bl _ (by simp)) (se ea) na') (by rfl)) ?_
  refine ha c r σ H _ hK hcm tk E (h.bind fun x r1 _ v H1 E1 k1 u1 q1 h1 => ?_)
  obtain ⟨d, ed, h2⟩ := h1.lift
  obtain ⟨z, ez, h3⟩ := h2.lift
  have vx := RV.vw E1 q1.base ed
  obtain ⟨e0, rfl, ok⟩ := rgI_some ez
  cases vx
  obtain ⟨z1, z2⟩ := z
  cases e0
  obtain ⟨b1, b2, b3, b4, _⟩ := ok
  exact ⟨_, rfl, b1, b2, b3, b4, h3.ok E1 (Ext.refl _) (ri_old ⟨_, _, (rg_rel 0 _).rev, trivial, fun _ _ => trivial, jw_rvr⟩)⟩
end
end Di
namespace Di
open PySem PySem.Spec PyProof.Rows L2
theorem base_ok {o : Expr} {m : Str} {env : Env} {w : Sem Value} (h : baseOk o = true) : attributeBase o m env w = w := by cases o <;> first | rfl | cases h
section
variable {X : Cx} {cm : Nat → Value} {sg : List Sig} {tb : List Fn} {gs : List (Str × PyData)} {k : Nat}
theorem strs_relW {K : PySem.W.Frag} {H : Hp} {Pa : Addr → Prop} : ∀ {ds : List PyData} {vs : List V} {is : List Str}, RpL K H Pa vs ds → strsL ds = some is → vs = is.map V.str := by
  intro ds
  induction ds with
  | nil => intro vs is h e; cases h; cases e; rfl
  | cons d ds ih =>
    intro vs is h e
    cases h with
    | cons h g =>
      cases d <;> simp only [strsL] at e <;> first | (cases e; done) | skip
      cases q : strsL ds with
      | none => rw [q] at e; cases e
      | some js =>
        rw [q] at e
        cases e
        cases h
        rw [ih g q]
        rfl
theorem txV_eq {x : Vl} {s : Str} (h : txV x = some s) : x = .d (.str s) := by
  cases x with
  | d d => cases d <;> first | (cases h; done) | (cases h; rfl)
  | o i => cases h
  | f d => cases h
theorem snd_jn {a b : E} {ea eb : Expr} {p1 p2 : Pos} (ha : Snd X cm tb a ea) (hb : Snd X cm tb b eb) (ho : baseOk ea = true) (hl : (p1.endLine == p2.line) = true) (nb : notStar eb = true) :
    Snd X cm tb (.jn a b) (.Call (.Attribute ea "join" p1) [eb] [] p2) := by
  intro c r σ H Q hK hcm tk E h
  unfold ev at h
  refine SE.of (pe_bm PySem.F.plainAttrs_str PySem.F.slot_str_join PySem.F.type_str_join mt_join (se ea) (pa_cons (se eb) pa_nil (nostar nb)) (base_ok ho) (by rw [nostar nb]; rfl) hl (nostar nb) (by rfl)) ?_
  refine ha c r σ H _ hK hcm tk E (h.bind fun x r1 _ v H1 E1 k1 u1 q1 h1 => ?_)
  obtain ⟨s, es, h2⟩ := h1.lift
  have ex := txV_eq es
  subst ex
  have rx : Rp c.K H1 (Av' c r1) v (.str s) := q1.base
  cases rx
  refine ⟨rfl, ?_⟩
  refine hb c r1 σ H1 _ hK hcm tk E1 (h2.bind fun y r2 _ w H2 E2 k2 u2 q2 h3 => ?_)
  obtain ⟨dy, ey, h4⟩ := h3.lift
  obtain ⟨z, ez, h5⟩ := h4.lift
  have vy := RV.vw E2 q2.base ey
  have ez : ((strsD dy).bind fun ys => if (ys.map (·.length)).sum + ys.length * s.length ≤ 16777216 then some (PyData.str (Txt.join s ys)) else none) = some z := ez
  cases q : strsD dy with
  | none => rw [q] at ez; cases ez
  | some ys =>
    rw [q] at ez
    simp only [Option.bind_some] at ez
    split at ez
    · rename_i hz
      cases ez
      rw [hK] at vy
      cases vy <;> simp only [strsD] at q <;> first | (cases q; done) | skip
      · rename_i l r
        have e := strs_relW r q
        subst e
        exact ⟨_, _, ys, rfl, rfl, .inl l.sq, hz, h5.okd E2 (Ext.refl _) (.str _)⟩
      · rename_i l r
        have e := strs_relW r q
        subst e
        exact ⟨_, _, ys, rfl, rfl, .inr l.sq, hz, h5.okd E2 (Ext.refl _) (.str _)⟩
    · cases ez
theorem snd_sfi {a b : E} {ea eb : Expr} {p1 p2 : Pos} (ha : Snd X cm tb a ea) (hb : Snd X cm tb b eb) (ho : baseOk ea = true) (hl : (p1.endLine == p2.line) = true) (nb : notStar eb = true) :
    Snd X cm tb (.sfi a b) (.Call (.Attribute ea "index" p1) [eb] [] p2) := by
  intro c r σ H Q hK hcm tk E h
  unfold ev at h
  refine SE.of (pe_bm PySem.F.plainAttrs_str PySem.F.slot_str_index PySem.F.type_str_index mt_sindex (se ea) (pa_cons (se eb) pa_nil (nostar nb)) (base_ok ho) (by rw [nostar nb]; rfl) hl (nostar nb) (by rfl)) ?_
  refine ha c r σ H _ hK hcm tk E (h.bind fun x r1 _ v H1 E1 k1 u1 q1 h1 => ?_)
  obtain ⟨s, es, h2⟩ := h1.lift
  have ex := txV_eq es
  subst ex
  have rx : Rp c.K H1 (Av' c r1) v (.str s) := q1.base
  cases rx
  refine ⟨rfl, ?_⟩
  refine hb c r1 σ H1 _ hK hcm tk E1 (h2.bind fun y r2 _ w H2 E2 k2 u2 q2 h3 => ?_)
  obtain ⟨dy, ey, h4⟩ := h3.lift
  obtain ⟨z, ez, h5⟩ := h4.lift
  have vy := RV.vw E2 q2.base ey
  cases vy <;> simp only [sfiD] at ez <;> first | (cases ez; done) | skip
  split at ez
  · rename_i i rest hq
    cases ez
    exact ⟨_, _, i, rest, rfl, rfl, hq, h5.okd E2 (Ext.refl _) (.int _)⟩
  · cases ez
theorem insD_some {d : PyData} {n : Nat} (h : insD d = some n) : ∃ j : Int, d = .int j ∧ 0 ≤ j ∧ j < 2 ^ 63 ∧ n = j.toNat := by
  unfold insD at h
  split at h
  · rename_i j
    split at h
    · rename_i q
      cases h
      exact ⟨j, rfl, q.1, q.2, rfl⟩
    · cases h
  · cases h
theorem snd_ins {i : Nat} {a b : E} {x : Str} {ea eb : Expr} {p p1 p2 : Pos} (hv : PE X (.Name x p) (tVar i)) (ha : Snd X cm tb a ea) (hb : Snd X cm tb b eb) (hl : (p1.endLine == p2.line) = true) (na : notStar ea = true) (nb : notStar eb = true) :
    Snd X cm tb (.ins i a b) (.Call (.Attribute (.Name x p) "insert" p1) [ea, eb] [] p2) := by
  intro c r σ H Q hK hcm tk E h
  unfold ev at h
  obtain ⟨xs0, e0, h⟩ := h.lift
  obtain ⟨o1, o2⟩ := ownL_own e0
  obtain ⟨hσ, vs0, hw0, _⟩ := own_list E o1 o2
  have nb' := nostar (es := []) (env := X.env) nb
  have na' := nostar (es := [eb]) (env := X.env) na
  refine SE.of (pe_bm PySem.F.plainAttrs_list PySem.F.slot_list_insert PySem.F.type_list_insert mt_insert hv (pa_cons (se ea) (pa_cons (se eb) pa_nil nb') na') base_name (by rw [na', nb']; rfl) hl na' (by rw [nb']; rfl)) ?_
  refine ⟨_, hσ, Or.inl ⟨rfl, _, .inl (.inl hw0)⟩, ?_⟩
  refine ha c r σ H _ hK hcm tk E (h.bind fun x r1 _ v H1 E1 k1 u1 q1 h1 => ?_)
  obtain ⟨d, ed, h2⟩ := h1.lift
  have vx := RV.vw E1 q1.base ed
  refine hb c r1 σ H1 _ hK hcm tk E1 (h2.bind fun y r2 _ w H2 E2 k2 u2 q2 h3 => ?_)
  obtain ⟨d2, r3, _, E3, u3, rp, h4⟩ := cap_ok E2 q2 h3
  obtain ⟨n, en, h5⟩ := h4.lift
  obtain ⟨xs, e3, h6⟩ := h5.lift
  obtain ⟨o3, o4⟩ := ownL_own e3
  obtain ⟨_, vs, hw, g⟩ := own_list E3 o3 o4
  obtain ⟨j, rfl, j0, j1, rfl⟩ := insD_some en
  cases vx
  split at h6
  · rename_i hlen
    refine ⟨_, vs, j, _, rfl, rfl, hw, by rw [g.length]; exact hlen, j0, j1, ?_⟩
    exact post_chg (γ := Unit) E3 o3 (((g.take _).append (.one rp)).append (g.drop _)) .non h6
  · exact h6.elim
theorem lstD_eq {d : PyData} {xs : List PyData} (h : lstD d = some xs) : d = .list xs := by cases d <;> first | (cases h; done) | (cases h; rfl)
theorem sndi_en {a : E} {ea : Expr} {p pos tpos : Pos} {elts : List Expr} {kk : Nat} (C : Cok X cm sg tb gs k) (ha : Snd X cm tb a ea) (hg : Gl X "enumerate") (na : notStar ea = true) : SndI X cm tb (.en a) (.Tuple elts kk tpos) (.Call (.Name "enumerate" p) [ea] [] pos) := by
  intro c r σ H R hK hcm tk E h
  unfold evi at h
  have na' := nostar (es := []) (env := X.env) na
  refine SI.of (pi_enum hg (C.bl _ (by simp)) (pa_cons (se ea) pa_nil na') na') ?_
  refine ha c r σ H _ hK hcm tk E (h.bind fun x r1 _ v H1 E1 k1 u1 q1 h1 => ?_)
  cases e1 : cap x r1 with
  | st => rw [e1] at h1; exact h1.elim
  | ex e r' => exact (cap_nex e1).elim
  | ok d r2 =>
    obtain ⟨E2, u2, rp⟩ := ER.hold E1 q1.base e1
    rw [e1] at h1
    simp only [Di.R.bind_ok] at h1
    obtain ⟨xs, ex, h2⟩ := h1.lift
    have ed := lstD_eq ex
    subst ed
    have fin : ∀ J, ri c J H1 r2 (enD 0 xs) → R J H1 := fun J q => h2 J H1 E2 (Kp.refl _ _) u2 q
    cases rp
    rename_i a1 vs l1 g1
    refine ⟨a1, vs, rfl, hK ▸ l1.lv.sq, fin _ ⟨fun Hi => Kp (Av' c r2) H1 Hi, Kp.refl _ _, fun H'' k => k, fun i Hi k => ?_⟩⟩
    have s1 : SqL X.K Hi a1 vs := hK ▸ (l1.mono k fun _ p => p).lv.sq
    refine ⟨fun d hd => ?_, fun h => ⟨vs, s1, ?_⟩⟩
    · obtain ⟨x0, hx, rfl⟩ := en_get hd
      obtain ⟨vx, hvx, rx⟩ := g1.get hx
      refine ⟨⟨vs, vx, s1, hvx⟩, fun z Hy hz => ?_⟩
      obtain ⟨T, x', rfl, hT, rfl, fx⟩ := hz
      have q1 := fx vs s1
      rw [hvx] at q1; cases q1
      have kk : Kp (fun a => Av' c r2 a ∧ ∃ o, H1 a = some o) H1 (upd Hi T (.tup [.int (i : Nat), vx])) := fun a o p e => Ext.new hT _ _ (k a o p.1 e)
      rw [Nat.zero_add]
      exact ⟨Ext.new hT, fun P' s n => .tup (.inl ⟨n T hT, .inl upd_same⟩) (.cons (.int _) (.cons (rx.live.mono kk s) .nil))⟩
    · rw [en_len] at h
      rw [g1.length]; omega
theorem snd_bad {ee : Expr} : Snd X cm tb .bad ee := by
  intro c r σ H Q hK hcm tk E h
  unfold ev at h
  exact h.elim
end
end Di
namespace Di
open PySem PySem.Spec PyProof.Rows L2
/-- the constants within a comprehension whose list stands at D and holds av -/
def Ct.at (c : Ct) (D : Addr) (av : List V) : Ct := { c with P := fun a => c.P a ∧ a ≠ D, W := fun _ _ _ _ => False, H0 := fun a => if a = D then some (.lst av) else c.H0 a }
section
variable {c : Ct} {σ : L2.St} {H H' : Hp} {r r' : En} {D : Addr} {av bv : List V}
theorem at_av {a : Addr} : Av' (c.at D av) r a ↔ (Av' c r a ∧ a ≠ D) := ⟨fun h => ⟨⟨h.1.1, h.2⟩, h.1.2⟩, fun h => ⟨⟨h.1.1, h.2⟩, h.1.2⟩⟩
theorem Er.offL (E : Er c H σ r) (h : H D = none) : ∀ p ∈ c.L, D ≠ p.2 := fun p hp e => by
  obtain ⟨e1, d, hd⟩ := E.lent p hp
  obtain ⟨_, w⟩ := E.on p.1 d (by rw [hd]; rfl) (by rw [hd]; rfl)
  obtain ⟨o, ho, _⟩ := w.some
  rw [e1, ← e, h] at ho; cases ho
/-- the new list is made -/
theorem Er.open_ (E : Er c H σ r) (h : H D = none) : Er (c.at D []) (upd H D (.lst [])) σ r := by
  have kp : ∀ a o, H a = some o → upd H D (.lst []) a = some o := Ext.new h
  have av : ∀ a, (Av' c r a ∧ a ≠ D) → Av' (c.at D []) r a := fun a => at_av.mpr
  have hne : ∀ i d, (slot r i).own = true → (slot r i).data = some d → c.al i ≠ D := fun i d h1 h2 e => by
    obtain ⟨_, w⟩ := E.on i d h1 h2
    obtain ⟨o, ho, _⟩ := w.some
    rw [e, h] at ho; cases ho
  have own : ∀ i, (slot r i).own = true → c.al i ≠ D := fun i h1 => let ⟨d, hd⟩ := own_data h1; hne i d h1 hd
  refine ⟨E.len, fun a o p e => ?_, fun i d e => ?_, fun i d e e' => ?_, fun i d e => ?_, E.rf, E.inj, E.lent, fun a ha => ?_⟩
  · by_cases q : a = D
    · subst q
      have e : some (HO.lst []) = some o := by simpa [Ct.at] using e
      rw [upd_same]; exact e
    · have e : c.H0 a = some o := by simpa [Ct.at, q] using e
      exact kp a o (E.keep a o p e)
  · obtain ⟨v, hv, g⟩ := E.sh i d e
    exact ⟨v, hv, (g.off h).mono (fun a o _ q => kp a o q) av⟩
  · obtain ⟨hv, w⟩ := E.on i d e e'
    refine ⟨hv, ?_⟩
    cases w with
    | lst w g => exact .lst (kp _ _ w) ((g.off h).mono (fun a o _ q => kp a o q) av)
    | dic w g => exact .dic (kp _ _ w) ((g.off h).mono (fun a o _ q => kp a o q) av)
  · obtain ⟨p, q⟩ := E.ow i d e
    have ne := own i (by rw [e]; rfl)
    exact ⟨⟨p, ne⟩, by simp [Ct.at, ne, q]⟩
  · have ne : a ≠ D := fun e => by rw [e, upd_same] at ha; cases ha
    rw [upd_ne ne] at ha
    exact ⟨E.new a ha, ne⟩
/-- .. its content changes -/
theorem Er.redo (E : Er (c.at D av) H σ r) (hL : ∀ p ∈ c.L, D ≠ p.2) : Er (c.at D bv) (upd H D (.lst bv)) σ r ∧ Kp (Av' (c.at D av) r) H (upd H D (.lst bv)) := by
  have kp : ∀ a o, a ≠ D → H a = some o → upd H D (.lst bv) a = some o := fun a o ne e => by rw [upd_ne ne]; exact e
  have kpa : Kp (Av' (c.at D av) r) H (upd H D (.lst bv)) := fun a o p e => kp a o (at_av.mp p).2 e
  have own : ∀ i, (slot r i).own = true → c.al i ≠ D := fun i h1 => by
    obtain ⟨d, hd⟩ := own_data h1
    cases q : slot r i with
    | un => rw [q] at h1; cases h1
    | sh _ => rw [q] at h1; cases h1
    | ow y => exact (E.ow i y q).1.2
    | rf y => exact fun e => hL _ (E.rf i y q) e.symm
  refine ⟨⟨E.len, fun a o p e => ?_, fun i d e => ?_, fun i d e e' => ?_, fun i d e => ?_, E.rf, E.inj, E.lent, fun a ha => ?_⟩, kpa⟩
  · by_cases q : a = D
    · subst q
      have e : some (HO.lst bv) = some o := by simpa [Ct.at] using e
      rw [upd_same]; exact e
    · exact kp a o q (E.keep a o p (by simpa [Ct.at, q] using e))
  · obtain ⟨v, hv, g⟩ := E.sh i d e
    exact ⟨v, hv, g.mono kpa fun a h => at_av.mpr (at_av.mp h)⟩
  · obtain ⟨hv, w⟩ := E.on i d e e'
    exact ⟨hv, w.mono (fun o q => kp _ o (own i e) q) kpa fun a h => at_av.mpr (at_av.mp h)⟩
  · obtain ⟨p, q⟩ := E.ow i d e
    have ne : c.al i ≠ D := p.2
    exact ⟨p, by simp only [Ct.at, if_neg ne] at q ⊢; exact q⟩
  · have ne : a ≠ D := fun e => by rw [e, upd_same] at ha; cases ha
    rw [upd_ne ne] at ha
    exact E.new a ha
theorem at_list (E : Er (c.at D av) H σ r) (hL : ∀ p ∈ c.L, D ≠ p.2) : H D = some (.lst av) := E.keep D _ hL (by simp [Ct.at])
end
section
variable {X : Cx} {cm : Nat → Value} {sg : List Sig} {tb : List Fn} {gs : List (Str × PyData)} {k : Nat}
def STs (X : Cx) (ifs : List Expr) : TT := fun σ H Q => ∀ pins s, Inv X pins σ H s →
    wpAny (model X.prog X.w) X.A (forIn ifs true fun c r => if r = true then do let ok ← isTrue c X.env (eval c X.env); pure (ForInStep.yield ok) else pure (ForInStep.yield r)) (TP X pins σ Q) X.xe s
theorem STs.of {ifs : List Expr} {t : TT} (h : PTs X ifs t) {σ : L2.St} {H : Hp} {Q : Bool → Hp → Prop} (q : t σ H Q) : STs X ifs σ H Q := fun pins s I => h.run pins s σ H Q I q
def SndC (X : Cx) (cm : Nat → Value) (tb : List Fn) (co : Eo) (ifs : List Expr) : Prop :=
  ∀ (c : Ct) (r : En) (σ : L2.St) (H : Hp) (Q : Bool → Hp → Prop), c.K = X.K → c.cm = cm → Takes X c.W → Er c H σ r → Post c σ rb r H Q (evc tb co r) → STs X ifs σ H Q
theorem sndC_no : SndC X cm tb .no [] := fun c r σ H Q hK hcm tk E h => STs.of pts_nil (Post.ok (x := true) h E (Ext.refl _) rfl)
theorem sndC_e {a : E} {e : Expr} (ha : SndT X cm tb a e) : SndC X cm tb (.e a) [e] := fun c r σ H Q hK hcm tk E h => STs.of (pts_one (stt e)) (ha c r σ H Q hK hcm tk E h)
/-- the block's context -/
abbrev Blk (X : Cx) (scope : Scope) (s : Shared) (H : Hp) (C : Addr) (cl : List (Str × Addr)) (fp : List Addr) : Cx := X.blk s H scope (compEnvC scope cl C X.env) fp
theorem keepE_slot : ∀ {r r' : En} (j : Nat), r'.length = r.length → slot (keepE r r') j = if (slot r j).own = true then slot r' j else slot r j
  | [], [], j, _ => by simp [keepE, slot, Sl.own]
  | a :: r, b :: r', 0, _ => by cases a <;> simp [keepE, slot, Sl.own]
  | a :: r, b :: r', j + 1, h => by
    have := keepE_slot (r := r) (r' := r') j (by simpa using h)
    show slot (keepE r r') j = if (slot r j).own = true then slot r' j else slot r j
    exact this
  | [], _ :: _, _, h => by simp at h
  | _ :: _, [], _, h => by simp at h
theorem keepE_len : ∀ {r r' : En}, r'.length = r.length → (keepE r r').length = r.length
  | [], [], _ => rfl
  | a :: r, b :: r', h => by simp [keepE, keepE_len (r := r) (r' := r') (by simpa using h)]
  | [], _ :: _, h => by simp at h
  | _ :: _, [], h => by simp at h
theorem wipe_get {σ : L2.St} {is : List Nat} {j : Nat} (h : j ∉ is) : (wipe σ is)[j]? = σ[j]? := by
  induction is with
  | nil => rfl
  | cons i is ih =>
    simp only [List.mem_cons, not_or] at h
    show ((wipe σ is).set i none)[j]? = _
    rw [List.getElem?_set_ne (fun q => h.1 q.symm), ih h.2]
theorem asgL_slots : ∀ {is : List Nat} {ds : List PyData} {r r' : En}, asgL is ds r = some r' → r'.length = r.length ∧ (∀ j, j ∉ is → slot r' j = slot r j) ∧ (∀ j, (slot r' j).own = true → (slot r j).own = true ∧ j ∉ is)
  | [], [], r, r', e => by cases e; exact ⟨rfl, fun _ _ => rfl, fun j h => ⟨h, by simp⟩⟩
  | i :: is, d :: ds, r, r', e => by
    simp only [asgL] at e
    cases z : setN r i (.sh d) with
    | none => rw [z] at e; cases e
    | some r1 =>
      rw [z] at e
      obtain ⟨hi, e1, nr⟩ := setN_spec z
      subst e1
      obtain ⟨h1, h2, h3⟩ := asgL_slots e
      have sl : ∀ j, slot (r.set i (.sh d)) j = if j = i then .sh d else slot r j := fun j => slot_set hi
      refine ⟨by rw [h1, List.length_set], fun j hj => ?_, fun j hj => ?_⟩
      · simp only [List.mem_cons, not_or] at hj
        rw [h2 j hj.2, sl, if_neg hj.1]
      · obtain ⟨o, n⟩ := h3 j hj
        rw [sl] at o
        by_cases q : j = i
        · rw [if_pos q] at o; cases o
        · rw [if_neg q] at o; exact ⟨o, by simp [q, n]⟩
  | [], _ :: _, _, _, e => by cases e
  | _ :: _, [], _, _, e => by cases e
theorem asgT_slots {t : Tg} {d : PyData} {r r' : En} (e : asgT t d r = some r') : r'.length = r.length ∧ (∀ j, j ∉ t.slots → slot r' j = slot r j) ∧ (∀ j, (slot r' j).own = true → (slot r j).own = true ∧ j ∉ t.slots) := by
  cases t with
  | n i =>
    refine asgL_slots (is := [i]) (ds := [d]) ?_
    have e : setN r i (.sh d) = some r' := e
    simp [asgL, e]
  | t is =>
    cases d <;> simp only [asgT] at e <;> first | (cases e; done) | exact asgL_slots e
  | p i j k =>
    unfold asgT at e
    simp only at e
    split at e
    · exact asgL_slots e
    · cases e
theorem up_turn {is : List Nat} {rw ri r1 r4 r5 : En} (u : Up rw ri) (hu : ∀ j, j ∈ is → slot rw j = .un) (l1 : r1.length = ri.length) (o1 : ∀ j, j ∉ is → slot r1 j = slot ri j) (u4 : Up r1 r4) (l5 : r5.length = r4.length) (o5 : ∀ j, j ∉ is → slot r5 j = slot r4 j) (n5 : ∀ j, j ∈ is → slot r5 j = .un) : Up rw r5 := by
  have nin : ∀ j s, slot rw j = s → s ≠ .un → j ∉ is := fun j s h hs m => hs (by rw [← h, hu j m])
  refine ⟨by rw [l5, u4.len, l1, u.len], fun j hj => ?_, fun j d hd => ?_, fun j d hd => ?_⟩
  · by_cases m : j ∈ is
    · rw [n5 j m] at hj; cases hj
    · rw [o5 j m] at hj
      have := u4.own j hj
      rw [o1 j m] at this
      exact u.own j this
  · have m := nin j _ rfl (fun z => by rw [z] at hd; cases hd)
    obtain ⟨d1, h1⟩ := u.asg j d hd
    rw [← o1 j m] at h1
    obtain ⟨d2, h2⟩ := u4.asg j d1 h1
    exact ⟨d2, by rw [o5 j m]; exact h2⟩
  · have m := nin j _ hd (fun z => by cases z)
    rw [o5 j m]
    refine u4.sh j d ?_
    rw [o1 j m]
    exact u.sh j d hd
/-- what a list comprehension's reading asks -/
theorem lc_core_ok {t : Tg} {it : Di.It} {co : Eo} {elt : E} {tg iter eelt : Expr} {ifs : List Expr} {scope : Scope} (hI : SndI X cm tb it tg iter) (hC : ∀ s H C cl fp, SndC (Blk X scope s H C cl fp) cm tb co ifs) (hE : ∀ s H C cl fp, Snd (Blk X scope s H C cl fp) cm tb elt eelt)
    {c : Ct} {r : En} {σ : L2.St} {H : Hp} {Q : VK} (hK : c.K = X.K) (hcm : c.cm = cm) (tk : Takes X c.W) (E : Er c H σ r) (h : Post c σ (rv c σ) r H Q (ev tb (.lc t it co elt) r)) :
    tLc (SI X tg iter) (tgG X.K t) (fun σ H Q => ∀ s0 H0 C cl fp, STs (Blk X scope s0 H0 C cl fp) ifs σ H Q) (fun σ H Q => ∀ s0 H0 C cl fp, SE (Blk X scope s0 H0 C cl fp) eelt σ H Q) t.slots σ H Q := by
  unfold ev at h
  refine hI c r σ H _ hK hcm tk E (h.bind fun ds r0 _ J H1 E1 k1 u1 q1 h1 => ?_)
  obtain ⟨rw, ew, h2⟩ := h1.lift
  obtain ⟨G, g0, gk, jw⟩ := q1
  intro D hD
  have hL := E1.offL hD
  obtain ⟨Ew, aw, lw, ow, uw, nw⟩ := wipeE_ok ew E1
  -- the turns end well
  cases hgo : lcGo t (evc tb co) (ev tb elt) ds rw [] with
  | st => rw [hgo] at h2; exact h2.elim
  | ex e r' => rw [hgo] at h2; exact h2.elim
  | ok dsF rF =>
    rw [hgo] at h2
    have E2 := Ew.open_ hD
    have kpG : ∀ {Hi : Hp}, Kp (Av' (c.at D []) rw) (upd H1 D (.lst [])) Hi → Kp (Av' c r0) H1 Hi := fun {Hi} kp a o p e => by
      have ne : a ≠ D := fun z => by rw [z, hD] at e; cases e
      exact kp a o (at_av.mpr ⟨(aw a).mpr p, ne⟩) (by rw [upd_ne ne]; exact e)
    refine ⟨fun i m Hi => m = ds.length - i ∧ i ≤ ds.length ∧ ∃ ri acc av, Er (c.at D av) Hi (wipe σ t.slots) ri ∧ RpL c.K Hi (Av' (c.at D av) ri) av acc ∧ Kp (Av' (c.at D []) rw) (upd H1 D (.lst [])) Hi ∧ Up rw ri ∧
      lcGo t (evc tb co) (ev tb elt) (ds.drop i) ri acc = .ok dsF rF, ⟨_, rfl, Nat.zero_le _, rw, [], [], E2, .nil, Kp.refl _ _, Up.refl _, hgo⟩, ?_⟩
    rintro i m Hi ⟨rfl, hi, ri, acc, av, Ei, ga, kp, up, go⟩
    have gi := gk _ (kpG kp)
    by_cases hlt : i < ds.length
    · -- a turn
      obtain ⟨d, hd⟩ : ∃ d, ds[i]? = some d := ⟨ds[i], List.getElem?_eq_getElem hlt⟩
      have drop_ : ds.drop i = d :: ds.drop (i + 1) := by
        rw [List.drop_eq_getElem_cons hlt]
        rw [List.getElem?_eq_getElem hlt] at hd
        cases hd; rfl
      rw [drop_] at go
      unfold lcGo at go
      obtain ⟨jgo, jyld⟩ := (jw i Hi gi).1 d hd
      refine .inr ⟨jgo, fun Hn => ∃ ri acc av, Er (c.at D av) Hn (wipe σ t.slots) ri ∧ RpL c.K Hn (Av' (c.at D av) ri) av acc ∧ Kp (Av' (c.at D []) rw) (upd H1 D (.lst [])) Hn ∧ Up rw ri ∧ lcGo t (evc tb co) (ev tb elt) (ds.drop (i + 1)) ri acc = .ok dsF rF,
        fun Hn q => ⟨ds.length - (i + 1), by omega, rfl, hlt, q⟩, fun y Hy hy => ?_⟩
      obtain ⟨ex, rp⟩ := jyld y Hy hy
      have rx' : Rp c.K Hy (Av' (c.at D av) ri) y d := rp _ (fun a ⟨p, o, ho⟩ => up.av (at_av.mpr ⟨(aw a).mpr p, fun z => by rw [z, hD] at ho; cases ho⟩)) (fun a h => Ei.free h)
      have Ei := Ei.ext ex
      have kp := kp.trans (ex.kp _)
      have ga := ga.ext ex
      cases ea : asgT t d ri with
      | none => rw [ea] at go; cases go
      | some r1 =>
        rw [ea] at go
        simp only [lift_some, Di.R.bind_ok] at go
        rw [← hK]
        refine asgT_ok (c := c.at D av) Ei ea rx' fun σ2 E1' l2 o2 av2 => ⟨?_, ?_⟩
        · rw [wipe_same (σ := wipe σ t.slots) l2 o2, wipe_wipe]
        · intro s0 H0 C cl fp
          have cm' : (c.at D av).cm = cm := hcm
          have w2 : wipe σ2 t.slots = wipe σ t.slots := by rw [wipe_same (σ := wipe σ t.slots) l2 o2, wipe_wipe]
          refine hC s0 H0 C cl fp (c.at D av) r1 σ2 Hy _ hK cm' takes0 E1' ?_
          cases ec : evc tb co r1 with
          | st => rw [ec] at go; cases go
          | ex e r2 => rw [ec] at go; cases go
          | ok b r2 =>
            rw [ec] at go
            simp only [Di.R.bind_ok] at go
            intro b' H3 E3 k3 u3 eb
            have eb : b' = b := eb
            subst eb
            -- from the turn's start to here
            have kp3 : Kp (Av' (c.at D []) rw) (upd H1 D (.lst [])) H3 := kp.trans fun a o p e => k3 a o (av2 a (up.av (at_av.mpr (at_av.mp p)))) e
            obtain ⟨l1, o1, _⟩ := asgT_slots ea
            have kp1 : Kp (Av' (c.at D av) ri) Hy H3 := fun a o p e => k3 a o (av2 a p) e
            have ga3 : RpL c.K H3 (Av' (c.at D av) r2) av acc := ga.mono kp1 fun a p => u3.av (av2 a p)
            cases b' with
            | true =>
              rw [if_pos rfl]
              rw [if_pos rfl] at go
              intro s0 H0 C cl fp
              refine hE s0 H0 C cl fp (c.at D av) r2 σ2 H3 _ hK cm' takes0 E3 ?_
              cases ey : ev tb elt r2 with
              | st => rw [ey] at go; cases go
              | ex e r3 => rw [ey] at go; cases go
              | ok y3 r3 =>
                rw [ey] at go
                simp only [Di.R.bind_ok] at go
                intro v H4 E4 k4 u4 q4
                cases eq : cap y3 r3 with
                | st => rw [eq] at go; cases go
                | ex e r4 => rw [eq] at go; cases go
                | ok d4 r4 =>
                  rw [eq] at go
                  simp only [Di.R.bind_ok] at go
                  obtain ⟨E5, u5, rp⟩ := ER.hold E4 q4.base eq
                  split at go
                  · rename_i hlen
                    cases ez : wipeE r4 t.slots with
                    | none => rw [ez] at go; cases go
                    | some r5 =>
                      rw [ez] at go
                      simp only [lift_some, Di.R.bind_ok] at go
                      obtain ⟨E6, a6, l6, o6, n6, _⟩ := wipeE_ok ez E5
                      rw [w2] at E6
                      obtain ⟨E7, k7⟩ := Er.redo (bv := av ++ [v]) E6 hL
                      refine ⟨av, at_list E4 hL, by rw [ga.length]; exact hlen, r5, acc ++ [d4], av ++ [v], E7, ?_, ?_, ?_, go⟩
                      · have z : RpL c.K H4 (Av' (c.at D av) r5) (av ++ [v]) (acc ++ [d4]) := (ga3.mono k4 fun a p => (a6 a).mpr (u5.av (u4.av p))).append (.one (rp.mono (Kp.refl _ _) fun a p => (a6 a).mpr p))
                        exact z.mono k7 fun a p => at_av.mpr (at_av.mp p)
                      · refine kp3.trans fun a o p e => k7 a o ?_ (k4 a o (u3.av (av2 a (up.av (at_av.mpr (at_av.mp p))))) e)
                        exact (a6 a).mpr (u5.av (u4.av (u3.av (av2 a (up.av (at_av.mpr (at_av.mp p)))))))
                      · exact up_turn up uw l1 o1 ((u3.trans u4).trans u5) l6 o6 n6
                  · cases go
            | false =>
              rw [if_neg Bool.false_ne_true]
              rw [if_neg Bool.false_ne_true] at go
              cases ez : wipeE r2 t.slots with
              | none => rw [ez] at go; cases go
              | some r5 =>
                rw [ez] at go
                simp only [lift_some, Di.R.bind_ok] at go
                obtain ⟨E6, a6, l6, o6, n6, _⟩ := wipeE_ok ez E3
                rw [w2] at E6
                exact ⟨r5, acc, av, E6, ga3.mono (Kp.refl _ _) fun a p => (a6 a).mpr p, kp3, up_turn up uw l1 o1 u3 l6 o6 n6, go⟩
    · -- the end
      have e : i = ds.length := by omega
      subst e
      rw [List.drop_length] at go
      cases go
      refine .inl ⟨(jw _ Hi gi).2 rfl, ?_⟩
      have kp' := kpG kp
      have lF : rF.length = r0.length := by rw [up.len, lw]
      have ks : ∀ j, slot (keepE r0 rF) j = if (slot r0 j).own = true then slot rF j else slot r0 j := fun j => keepE_slot j lF
      -- a slot that was one's own is none of the comprehension's
      have nin : ∀ j, (slot r0 j).own = true → j ∉ t.slots := fun j h m => by rw [nw j m] at h; cases h
      have own : ∀ j, (slot (keepE r0 rF) j).own = true → (slot r0 j).own = true ∧ (slot rF j).own = true := fun j h => by
        rw [ks] at h
        by_cases q : (slot r0 j).own = true
        · rw [if_pos q] at h; exact ⟨q, h⟩
        · rw [if_neg q] at h; exact absurd h q
      have own2 : ∀ j, (slot rF j).own = true → (slot (keepE r0 rF) j).own = true := fun j h => by
        have z := up.own j h
        have m : j ∉ t.slots := fun m => by rw [uw j m] at z; cases z
        rw [ow j m] at z
        rw [ks, if_pos z]; exact h
      have av1 : ∀ a, Av' c r0 a → Av' c (keepE r0 rF) a := fun a p => ⟨p.1, fun j h => p.2 j (own j h).1⟩
      have av2 : ∀ a, Av' (c.at D av) rF a → Av' c (keepE r0 rF) a := fun a p => ⟨p.1.1, fun j h => p.2 j (own j h).2⟩
      have uk : Up r0 (keepE r0 rF) := by
        refine ⟨keepE_len lF, fun j h => (own j h).1, fun j d hd => ?_, fun j d hd => ?_⟩
        · rw [ks]
          by_cases q : (slot r0 j).own = true
          · rw [if_pos q]
            rw [← ow j (nin j q)] at hd
            exact up.asg j d hd
          · rw [if_neg q]; exact ⟨d, hd⟩
        · rw [ks, if_neg (by rw [hd]; exact Bool.false_ne_true)]; exact hd
      have Ek : Er (c.off D) Hi σ (keepE r0 rF) := by
        refine ⟨by rw [keepE_len lF]; exact E1.len, fun a o p e => ?_, fun j d hd => ?_, fun j d h hd => ?_, fun j d hd => ?_, fun j d hd => ?_, fun i j hi hj => E1.inj i j (own i hi).1 (own j hj).1, fun p hp => ?_, fun a ha => Ei.new a ha⟩
        · have e : c.H0 a = some o := e
          have ne : a ≠ D := fun z => by rw [z] at e; have := E1.back0 hD; rw [this] at e; cases e
          exact Ei.keep a o p (by simp only [Ct.at, if_neg ne]; exact e)
        · rw [ks] at hd
          by_cases q : (slot r0 j).own = true
          · rw [if_pos q] at hd
            obtain ⟨v, hv, g⟩ := Ei.sh j d hd
            exact ⟨v, by rw [wipe_get (nin j q)] at hv; exact hv, g.mono (Kp.refl _ _) fun a p => off_av.mpr ⟨av2 a p, (at_av.mp p).2⟩⟩
          · rw [if_neg q] at hd
            obtain ⟨v, hv, g⟩ := E1.sh j d hd
            exact ⟨v, hv, (g.off hD).mono (kp'.weak fun a p => p.1) fun a p => off_av.mpr ⟨av1 a p.1, p.2⟩⟩
        · obtain ⟨o1, o2⟩ := own j h
          rw [ks, if_pos o1] at hd
          obtain ⟨hv, w⟩ := Ei.on j d o2 hd
          exact ⟨by rw [wipe_get (nin j o1)] at hv; exact hv, w.mono (fun _ q => q) (Kp.refl _ _) fun a p => off_av.mpr ⟨av2 a p, (at_av.mp p).2⟩⟩
        · have o1 := (own j (by rw [hd]; rfl)).1
          rw [ks, if_pos o1] at hd
          obtain ⟨p, q⟩ := Ei.ow j d hd
          have ne : c.al j ≠ D := p.2
          exact ⟨p, by simp only [Ct.at, if_neg ne] at q; exact q⟩
        · have o1 := (own j (by rw [hd]; rfl)).1
          rw [ks, if_pos o1] at hd
          exact Ei.rf j d hd
        · obtain ⟨e1, d, hd⟩ := Ei.lent p hp
          obtain ⟨_, d0, hd0⟩ := E1.lent p hp
          exact ⟨e1, d, by rw [ks, if_pos (by rw [hd0]; rfl)]; exact hd⟩
      refine h2 (.ref D) Hi Ek.unoff kp' uk ⟨⟨D, rfl, .lst (at_list Ei hL) (ga.mono (Kp.refl _ _) av2), av1 D (E1.free hD), E1.back0 hD⟩, fun a e => ?_⟩
      cases e
      exact ⟨Ek, .lst (at_list Ei hL) (ga.mono (Kp.refl _ _) fun a p => off_av.mpr ⟨av2 a p, (at_av.mp p).2⟩)⟩
/-- [elt for tg in iter if ..] -/
theorem snd_lc {t : Tg} {it : Di.It} {co : Eo} {elt : E} {tg iter eelt : Expr} {ifs : List Expr} {scope : Scope} {own : List (Str × Nat)} {p : Pos} (C : Cok X cm sg tb gs k) (hI : SndI X cm tb it tg iter) (ok : BlkOk X.N X.env.scope scope own) (ho : own.map (·.2) = t.slots)
    (hG : ∀ s H C cl fp, PG (Blk X scope s H C cl fp) tg (tgG X.K t)) (hC : ∀ s H C cl fp, SndC (Blk X scope s H C cl fp) cm tb co ifs) (hE : ∀ s H C cl fp, Snd (Blk X scope s H C cl fp) cm tb elt eelt) (hs : ∀ x, foldedSetIterable iter X.env x = pure x) :
    Snd X cm tb (.lc t it co elt) (.ListComp eelt [⟨tg, iter, ifs, 0⟩] scope p) := by
  intro c r σ H Q hK hcm tk E h
  refine SE.of (pe_lc (tt := fun σ H Q => ∀ s0 H0 C cl fp, STs (Blk X scope s0 H0 C cl fp) ifs σ H Q) (te := fun σ H Q => ∀ s0 H0 C cl fp, SE (Blk X scope s0 H0 C cl fp) eelt σ H Q) C.hc C.nd (si tg iter) ok hG
    (fun s H C cl fp => ⟨fun pins s' σ H' Q I z => z s H C cl fp pins s' I⟩) (fun s H C cl fp => ⟨fun pins s' σ H' Q I z => z s H C cl fp pins s' I⟩) hs) ?_
  rw [ho]
  exact lc_core_ok hI hC hE hK hcm tk E h
end
end Di
namespace Di
open PySem PySem.Spec PyProof.Rows L2
def Ct.mv (c : Ct) (al : Nat → Addr) : Ct := { c with al := al }
section
variable {c : Ct} {σ : L2.St} {H H' : Hp} {r r' : En}
/-- a new object is given to a name -/
theorem Er.setow {a : Addr} {i : Nat} {d : PyData} (E : Er (c.off a) H σ r) (hi : i < r.length) (nr : ∀ d, slot r i ≠ .rf d) (w : Ow c.K H (Av' (c.off a) r) a d) (p : Av' c r a) (n : c.H0 a = none) :
    Er (c.mv fun j => if j = i then a else c.al j) H (σ.set i (some (.ref a))) (r.set i (.ow d)) := by
  have sl : ∀ j, slot (r.set i (.ow d)) j = if j = i then .ow d else slot r j := fun j => slot_set hi
  have sg : ∀ j, (σ.set i (some (V.ref a)))[j]? = if j = i then some (some (V.ref a)) else σ[j]? := fun j => st_get (by rw [E.len]; exact hi)
  have av : ∀ b, Av' (c.off a) r b → Av' (c.mv fun j => if j = i then a else c.al j) (r.set i (.ow d)) b := fun b q => by
    have q := off_av.mp q
    refine ⟨q.1.1, fun j hj => ?_⟩
    show b ≠ if j = i then a else c.al j
    by_cases e : j = i
    · rw [if_pos e]; exact q.2
    · rw [if_neg e]
      rw [sl, if_neg e] at hj
      exact q.1.2 j hj
  refine ⟨by rw [List.length_set, List.length_set]; exact E.len, E.keep, fun j x hx => ?_, fun j x hx hd => ?_, fun j x hx => ?_, fun j x hx => ?_, fun j l hj hl e => ?_, fun q hq => ?_, fun b hb => (E.new b hb).1⟩
  · rw [sl] at hx
    by_cases e : j = i
    · rw [if_pos e] at hx; cases hx
    · rw [if_neg e] at hx
      obtain ⟨v, hv, g⟩ := E.sh j x hx
      exact ⟨v, by rw [sg, if_neg e]; exact hv, g.mono (Kp.refl _ _) av⟩
  · show (σ.set i (some (V.ref a)))[j]? = some (some (.ref (if j = i then a else c.al j))) ∧ Ow c.K H _ (if j = i then a else c.al j) x
    rw [sl] at hx hd
    by_cases e : j = i
    · rw [if_pos e] at hd ⊢
      cases hd
      exact ⟨by rw [sg, if_pos e], w.mono (fun _ q => q) (Kp.refl _ _) av⟩
    · rw [if_neg e] at hx hd ⊢
      obtain ⟨hv, w'⟩ := E.on j x hx hd
      exact ⟨by rw [sg, if_neg e]; exact hv, w'.mono (fun _ q => q) (Kp.refl _ _) av⟩
  · show c.P (if j = i then a else c.al j) ∧ c.H0 (if j = i then a else c.al j) = none
    rw [sl] at hx
    by_cases e : j = i
    · rw [if_pos e]; exact ⟨p.1, n⟩
    · rw [if_neg e] at hx ⊢
      exact ⟨(E.ow j x hx).1.1, (E.ow j x hx).2⟩
  · show (j, if j = i then a else c.al j) ∈ c.L
    rw [sl] at hx
    by_cases e : j = i
    · rw [if_pos e] at hx; cases hx
    · rw [if_neg e] at hx ⊢; exact E.rf j x hx
  · have e : (if j = i then a else c.al j) = if l = i then a else c.al l := e
    rw [sl] at hj hl
    by_cases q1 : j = i
    · by_cases q2 : l = i
      · rw [q1, q2]
      · rw [if_pos q1, if_neg q2] at e
        rw [if_neg q2] at hl
        exact absurd e (p.2 l hl)
    · by_cases q2 : l = i
      · rw [if_neg q1, if_pos q2] at e
        rw [if_neg q1] at hj
        exact absurd e.symm (p.2 j hj)
      · rw [if_neg q1, if_neg q2] at e
        rw [if_neg q1] at hj
        rw [if_neg q2] at hl
        exact E.inj j l hj hl e
  · obtain ⟨e1, y, hy⟩ := E.lent q hq
    have ne : q.1 ≠ i := fun e => by rw [e] at hy; exact nr y hy
    refine ⟨?_, y, by rw [sl, if_neg ne]; exact hy⟩
    show (if q.1 = i then a else c.al q.1) = q.2
    rw [if_neg ne]; exact e1
end
/-- what is handed back -/
def RtV (c : Ct) (H : Hp) (r : En) (v : V) (fr : Bool) (d : PyData) : Prop :=
  if fr = true then ∃ a, v = .ref a ∧ Ow c.K H (fun b => c.P b ∧ b ≠ a) a d ∧ c.P a ∧ c.H0 a = none ∧ ∀ i x, slot r i = .rf x → Ow c.K H (fun b => c.P b ∧ b ≠ a) (c.al i) x
  else Rp c.K H c.P v d
def PostS (c : Ct) (D : Ends) : R Fl → Prop
  | .st => False
  | .ok f r' => ∀ al σ' H', Er (c.mv al) H' σ' r' → match f with
    | .nx => D.nx σ' H'
    | .ct => D.ct σ' H'
    | .bk => D.bk σ' H'
    | .rt fr d => ∀ v, RtV (c.mv al) H' r' v fr d → D.rt v H'
  | .ex e r' => ∀ al σ' H' cls dd, Er (c.mv al) H' σ' r' → XR c.cm c.K H' (Av' (c.mv al) r') e cls dd → c.W cls dd σ' H'
theorem PostS.e {α β : Type} {c : Ct} {σ : L2.St} {H : Hp} {r : En} {D : Ends} {m : R α} {k : α → En → R Fl} {rel : β → Hp → En → α → Prop} {Q : β → Hp → Prop} (h : PostS c D (m.bind k))
    (hk : ∀ x r1, m = .ok x r1 → ∀ b H1, Er c H1 σ r1 → Kp (Av' c r) H H1 → Up r r1 → rel b H1 r1 x → PostS c D (k x r1) → Q b H1) : Post c σ rel r H Q m := by
  cases m with
  | st => exact h
  | ok x r' => exact fun b H' E k' u' q => hk x r' rfl b H' E k' u' q h
  | ex e r' => exact fun cls dd H' E x => h c.al σ H' cls dd E x
theorem PostS.lift {γ : Type} {c : Ct} {D : Ends} {o : Option γ} {r1 : En} {k : γ → En → R Fl} (h : PostS c D ((lift o r1).bind k)) : ∃ a, o = some a ∧ PostS c D (k a r1) := by
  cases o with
  | none => exact False.elim h
  | some a => exact ⟨a, rfl, h⟩
theorem PostS.cap {c : Ct} {D : Ends} {σ : L2.St} {H : Hp} {r : En} {x : Vl} {v : V} {k : PyData → En → R Fl} (E : Er c H σ r) (q : Rv c σ v H r x) (h : PostS c D ((cap x r).bind k)) :
    ∃ d r', cap x r = .ok d r' ∧ Er c H σ r' ∧ Up r r' ∧ Rp c.K H (Av' c r') v d ∧ PostS c D (k d r') := by
  cases e : Di.cap x r with
  | st => rw [e] at h; exact h.elim
  | ex z r1 =>
    cases x with
    | d d => cases e
    | f d => cases e
    | o i =>
      unfold Di.cap at e
      simp only at e
      split at e <;> cases e
  | ok d r' =>
    rw [e] at h
    obtain ⟨E', u, rp⟩ := E.hold q.base e
    exact ⟨d, r', rfl, E', u, rp, h⟩
section
variable {X : Cx} {cm : Nat → Value} {sg : List Sig} {tb : List Fn} {gs : List (Str × PyData)} {k : Nat}
def SndS (X : Cx) (cm : Nat → Value) (m : En → R Fl) (st : Stmt) : Prop :=
  ∀ (c : Ct) (r : En) (σ : L2.St) (H : Hp) (D : Ends), c.K = X.K → c.cm = cm → Takes X c.W → Er c H σ r → PostS c D (m r) → SS X st D σ H
def SndSs (X : Cx) (cm : Nat → Value) (m : En → R Fl) (st : List Stmt) : Prop :=
  ∀ (c : Ct) (r : En) (σ : L2.St) (H : Hp) (D : Ends), c.K = X.K → c.cm = cm → Takes X c.W → Er c H σ r → PostS c D (m r) → SSs X st D σ H
theorem snds_nil : SndSs X cm (exs tb .nil) [] := fun c r σ H D hK hcm tk E h => SSs.of pss_nil (h c.al σ H E)
theorem snds_cons {s : S} {ss : Ss} {st : Stmt} {sts : List Stmt} (h1 : SndS X cm (ex1 tb s) st) (h2 : SndSs X cm (exs tb ss) sts) : SndSs X cm (exs tb (.cons s ss)) (st :: sts) := by
  intro c r σ H D hK hcm tk E h
  unfold exs at h
  refine SSs.of (pss_cons (Di.ss st) (sss sts)) (h1 c r σ H _ hK hcm tk E ?_)
  cases q : ex1 tb s r with
  | st => rw [q] at h; exact h.elim
  | ex e r' => rw [q] at h; exact h
  | ok f r' =>
    rw [q] at h
    cases f with
    | nx => exact fun al σ' H' E' => h2 (c.mv al) r' σ' H' D hK hcm tk E' h
    | bk => exact h
    | ct => exact h
    | rt fr d => exact h
theorem snds_ret {e : E} {ee : Expr} {p : Pos} (he : Snd X cm tb e ee) : SndS X cm (ex1 tb (.ret e)) (.Return (some ee) p) := by
  intro c r σ H D hK hcm tk E h
  unfold ex1 at h
  refine SS.of (ps_ret (se ee)) (he c r σ H _ hK hcm tk E (h.e fun x r1 _ v H1 E1 k1 u1 q1 h1 => ?_))
  have P0 : ∀ a, Av' c r1 a → c.P a := fun a h => h.1
  cases x with
  | d d => exact h1 c.al σ H1 E1 v (Rp.mono (Kp.refl _ _) P0 q1.base)
  | f d =>
    obtain ⟨a, e1, w, p, n⟩ := q1.base
    obtain ⟨E2, w2⟩ := q1.fs a e1
    refine h1 c.al σ H1 E1 v ⟨a, e1, w2.mono (fun _ q => q) (Kp.refl _ _) fun b h => ⟨(off_av.mp h).1.1, h.1.2⟩, p.1, n, fun i x hx => ?_⟩
    obtain ⟨_, w3⟩ := E2.on i x (by rw [hx]; rfl) (by rw [hx]; rfl)
    exact w3.mono (fun _ q => q) (Kp.refl _ _) fun b h => ⟨(off_av.mp h).1.1, h.1.2⟩
  | o i =>
    obtain ⟨hv, d0, hd0⟩ := q1.base
    simp only [retV] at h1
    cases q : slot r1 i with
    | un => rw [q] at h1; exact h1.elim
    | rf d => rw [q] at h1; exact h1.elim
    | sh d =>
      rw [q] at h1
      obtain ⟨v', hv', g⟩ := E1.sh i d q
      rw [hv] at hv'; cases hv'
      exact h1 c.al σ H1 E1 v (g.mono (Kp.refl _ _) P0)
    | ow d =>
      rw [q] at h1
      obtain ⟨hv', w⟩ := E1.on i d (by rw [q]; rfl) (by rw [q]; rfl)
      rw [hv] at hv'; cases hv'
      obtain ⟨p, n⟩ := E1.ow i d q
      have off : ∀ b, Av' c r1 b → c.P b ∧ b ≠ c.al i := fun b h => ⟨h.1, h.2 i (by rw [q]; rfl)⟩
      refine h1 c.al σ H1 E1 _ ⟨_, rfl, w.mono (fun _ q => q) (Kp.refl _ _) off, p, n, fun j x hx => ?_⟩
      obtain ⟨_, w3⟩ := E1.on j x (by rw [hx]; rfl) (by rw [hx]; rfl)
      exact w3.mono (fun _ q => q) (Kp.refl _ _) off
theorem snds_retn {p : Pos} : SndS X cm (ex1 tb .retn) (.Return none p) := fun c r σ H D hK hcm tk E h => SS.of ps_retN (h c.al σ H E .non .non)
theorem snds_pas {p : Pos} : SndS X cm (ex1 tb .pas) (.Pass p) := fun c r σ H D hK hcm tk E h => SS.of ps_pass (h c.al σ H E)
theorem snds_brk {p : Pos} : SndS X cm (ex1 tb .brk) (.Break p) := fun c r σ H D hK hcm tk E h => SS.of ps_break (h c.al σ H E)
theorem snds_cnt {p : Pos} : SndS X cm (ex1 tb .cnt) (.Continue p) := fun c r σ H D hK hcm tk E h => SS.of ps_continue (h c.al σ H E)
theorem snds_exp {e : E} {ee : Expr} {p : Pos} (he : Snd X cm tb e ee) (hx : PS X (.Expr ee p) (tDrop (SE X ee))) : SndS X cm (ex1 tb (.exp e)) (.Expr ee p) := by
  intro c r σ H D hK hcm tk E h
  unfold ex1 at h
  exact SS.of hx (he c r σ H _ hK hcm tk E (h.e fun x r1 _ v H1 E1 k1 u1 q1 h1 => h1 c.al σ H1 E1))
theorem snds_if {e : E} {ss ts : Ss} {ee : Expr} {a b : List Stmt} {p : Pos} (he : SndT X cm tb e ee) (ha : SndSs X cm (exs tb ss) a) (hb : SndSs X cm (exs tb ts) b) : SndS X cm (ex1 tb (.ife e ss ts)) (.If ee a b p) := by
  intro c r σ H D hK hcm tk E h
  unfold ex1 at h
  refine SS.of (ps_if (stt ee) (sss a) (sss b)) ?_
  have h' : PostS c D (((ev tb e r).bind tst).bind fun k r => if k = true then exs tb ss r else exs tb ts r) := by rw [R.bind_assoc]; exact h
  refine he c r σ H _ hK hcm tk E (h'.e fun b0 r1 _ b' H1 E1 k1 u1 q1 h1 => ?_)
  have eb : b' = b0 := q1
  subst eb
  cases b' with
  | true => exact ha c r1 σ H1 D hK hcm tk E1 h1
  | false => exact hb c r1 σ H1 D hK hcm tk E1 h1
/-- name = value, by a rule of whose reading only the value is asked -/
theorem asg_reading {i : Nat} {e : E} {te : TE} {c : Ct} {r : En} {σ : L2.St} {H : Hp} {D : Ends} (E : Er c H σ r) (hte : ∀ Q, Post c σ (rv c σ) r H Q (ev tb e r) → te σ H Q) (h : PostS c D (ex1 tb (.asg (.n i) e) r)) : tAsg te (gName i) D σ H := by
  unfold ex1 at h
  refine hte _ (h.e fun x r1 _ v H1 E1 k1 u1 q1 h1 => ?_)
  simp only at h1
  show D.nx (σ.set i (some v)) H1
  cases x with
  | d d =>
    simp only [asgV, R.bind_assoc] at h1
    obtain ⟨r2, e2, h2⟩ := h1.lift
    obtain ⟨hi, e3, nr⟩ := setN_spec e2
    subst e3
    exact h2 c.al _ H1 (E1.setsh (v := some v) hi nr (.inr ⟨d, v, rfl, rfl, q1.base⟩)).1
  | f d =>
    simp only [asgV, R.bind_assoc] at h1
    obtain ⟨r2, e2, h2⟩ := h1.lift
    obtain ⟨hi, e3, nr⟩ := setN_spec e2
    subst e3
    obtain ⟨a, e1, w, p, n⟩ := q1.base
    obtain ⟨E2, w2⟩ := q1.fs a e1
    subst e1
    exact h2 _ _ H1 (E2.setow hi nr w2 p n)
  | o j =>
    simp only [asgV, R.bind_assoc] at h1
    obtain ⟨d, r2, _, E2, u2, rp, h2⟩ := PostS.cap E1 q1 h1
    obtain ⟨r3, e2, h3⟩ := h2.lift
    obtain ⟨hi, e3, nr⟩ := setN_spec e2
    subst e3
    exact h3 c.al _ H1 (E2.setsh (v := some v) hi nr (.inr ⟨d, v, rfl, rfl, rp⟩)).1
theorem snds_asg {i : Nat} {e : E} {x : Str} {ee : Expr} {p pos : Pos} (C : Cok X cm sg tb gs k) (he : Snd X cm tb e ee) (hi : X.N[i]? = some x) (hx : Loc X.env.scope x) (hf : X.fn x = true ∨ X.env.scope.names.lookup x = some .local) (hs : swapsWith ee (some (.Name x p)) pos.line X.env = pure false) :
    SndS X cm (ex1 tb (.asg (.n i) e)) (.Assign [.Name x p] ee pos) := fun c r σ H D hK hcm tk E h =>
  SS.of (ps_set C.nd hi hx (se ee) hs hf) (asg_reading E (fun Q q => he c r σ H Q hK hcm tk E q) h)
theorem snds_lc {i : Nat} {x : Str} {p pos p0 : Pos} {t : Tg} {it : Di.It} {co : Eo} {elt : E} {tg iter eelt : Expr} {ifs : List Expr} {scope : Scope} {own : List (Str × Nat)} (C : Cok X cm sg tb gs k) (hi : X.N[i]? = some x) (hx : X.env.scope.names.lookup x = some .local)
    (hsw : swapsWith (.ListComp eelt [⟨tg, iter, ifs, 0⟩] scope p0) (some (.Name x p)) pos.line X.env = pure true) (hI : SndI X cm tb it tg iter) (ok : BlkOk X.N X.env.scope scope own) (ho : own.map (·.2) = t.slots)
    (hG : ∀ s H C cl fp, PG (Blk X scope s H C cl fp) tg (tgG X.K t)) (hC : ∀ s H C cl fp, SndC (Blk X scope s H C cl fp) cm tb co ifs) (hE : ∀ s H C cl fp, Snd (Blk X scope s H C cl fp) cm tb elt eelt) (hs : ∀ x, foldedSetIterable iter X.env x = pure x) :
    SndS X cm (ex1 tb (.asg (.n i) (.lc t it co elt))) (.Assign [.Name x p] (.ListComp eelt [⟨tg, iter, ifs, 0⟩] scope p0) pos) := fun c r σ H D hK hcm tk E h =>
  SS.of (ps_setLc (tt := fun σ H Q => ∀ s0 H0 C cl fp, STs (Blk X scope s0 H0 C cl fp) ifs σ H Q) (te := fun σ H Q => ∀ s0 H0 C cl fp, SE (Blk X scope s0 H0 C cl fp) eelt σ H Q) C.hc C.nd hi hx hsw (si tg iter) ok hG
    (fun s H C cl fp => ⟨fun pins s' σ H' Q I z => z s H C cl fp pins s' I⟩) (fun s H C cl fp => ⟨fun pins s' σ H' Q I z => z s H C cl fp pins s' I⟩) hs)
    (asg_reading E (fun Q q => ho ▸ lc_core_ok hI hC hE hK hcm tk E q) h)
end
end Di
namespace Di
open PySem PySem.Spec PyProof.Rows L2
open Classical in
/-- within a loop: what is nobody's own at its start stays as it is -/
noncomputable def Ct.lp (c : Ct) (r : En) (H : Hp) : Ct := { c with H0 := fun a => if Av' c r a then H a else c.H0 a }
section
variable {c : Ct} {σ : L2.St} {H H' : Hp} {r r' : En}
theorem lp_pos {a : Addr} (h : Av' c r a) : (c.lp r H).H0 a = H a := if_pos h
theorem lp_neg {a : Addr} (h : ¬ Av' c r a) : (c.lp r H).H0 a = c.H0 a := if_neg h
theorem Er.lp (E : Er c H σ r) : Er (c.lp r H) H σ r := by
  refine ⟨E.len, fun a o p e => ?_, E.sh, E.on, fun i d e => ?_, E.rf, E.inj, E.lent, E.new⟩
  · by_cases h : Av' c r a
    · rwa [lp_pos h] at e
    · rw [lp_neg h] at e; exact E.keep a o p e
  · obtain ⟨p, n⟩ := E.ow i d e
    refine ⟨p, ?_⟩
    exact (lp_neg fun h => h.2 i (by rw [e]; rfl) rfl).trans n
theorem lp_none (E : Er c H σ r) {a : Addr} (h : (c.lp r H).H0 a = none) : c.H0 a = none := by
  by_cases q : Av' c r a
  · rw [lp_pos q] at h; exact E.back0 h
  · rwa [lp_neg q] at h
theorem lent_av (E : Er c H σ r) {a : Addr} (h : Av' c r a) : ∀ p ∈ c.L, a ≠ p.2 := fun p hp e => by
  obtain ⟨e1, d, hd⟩ := E.lent p hp
  exact h.2 p.1 (by rw [hd]; rfl) (by rw [e1]; exact e)
theorem Er.unlp (E : Er c H σ r) {al : Nat → Addr} {σ' : L2.St} (E' : Er ((c.lp r H).mv al) H' σ' r') : Er (c.mv al) H' σ' r' := by
  refine ⟨E'.len, fun a o p e => ?_, E'.sh, E'.on, fun i d e => ?_, E'.rf, E'.inj, E'.lent, E'.new⟩
  · refine E'.keep a o p ?_
    by_cases q : Av' c r a
    · exact (lp_pos q).trans (E.keep a o p e)
    · exact (lp_neg q).trans e
  · obtain ⟨p, n⟩ := E'.ow i d e
    exact ⟨p, lp_none E n⟩
theorem lp_kp (E : Er c H σ r) {al : Nat → Addr} {σ' : L2.St} (E' : Er ((c.lp r H).mv al) H' σ' r') : Kp (Av' c r) H H' := fun a o p e =>
  E'.keep a o (lent_av E p) ((lp_pos p).trans e)
theorem lp_av (E : Er c H σ r) {al : Nat → Addr} {σ' : L2.St} (E' : Er ((c.lp r H).mv al) H' σ' r') {a : Addr} (h : Av' c r a ∧ ∃ o, H a = some o) : Av' ((c.lp r H).mv al) r' a := by
  refine ⟨h.1.1, fun i hi e => ?_⟩
  cases q : slot r' i with
  | un => rw [q] at hi; cases hi
  | sh d => rw [q] at hi; cases hi
  | ow d =>
    have n := (E'.ow i d q).2
    obtain ⟨o, ho⟩ := h.2
    have n' : (c.lp r H).H0 a = none := e ▸ n
    rw [lp_pos h.1, ho] at n'
    cases n'
  | rf d =>
    have m : (i, al i) ∈ c.L := E'.rf i d q
    exact lent_av E h.1 _ m e
theorem lp_rp (E : Er c H σ r) {al : Nat → Addr} {σ' : L2.St} (E' : Er ((c.lp r H).mv al) H' σ' r') {v : V} {d : PyData} (g : Rp c.K H (Av' c r) v d) : Rp c.K H' (Av' ((c.lp r H).mv al) r') v d :=
  g.live.mono (fun a o p e => lp_kp E E' a o p.1 e) fun a p => lp_av E E' p
theorem RpF.mono' {K : PySem.W.Frag} {H : Hp} {P P' : Addr → Prop} (s : ∀ a, P a → P' a) {fs : List (Str × V)} {es : List (Str × PyData)} (h : RpF K H P fs es) : RpF K H P' fs es := by
  induction h with
  | nil => exact .nil
  | cons a b ih => exact .cons (a.mono (Kp.refl _ _) s) ih
theorem XR.mono' {cm : Nat → Value} {K : PySem.W.Frag} {P P' : Addr → Prop} {e : Xn} {cls : Value} {dd : Option Addr} (h : XR cm K H P e cls dd) (s : ∀ a, P a → P' a) : XR cm K H P' e cls dd := by
  obtain ⟨h1, d, fs, h2, h3, h4⟩ := h
  exact ⟨h1, d, fs, h2, h3, RpF.mono' s h4⟩
theorem postS_lp (E : Er c H σ r) {al : Nat → Addr} {D D' : Ends} {m : R Fl} (hnx : ∀ r', m = .ok .nx r' → ∀ al σ' H', Er ((c.lp r H).mv al) H' σ' r' → D'.nx σ' H') (hct : ∀ r', m = .ok .ct r' → ∀ al σ' H', Er ((c.lp r H).mv al) H' σ' r' → D'.ct σ' H') (hbk : ∀ r', m = .ok .bk r' → ∀ al σ' H', Er (c.mv al) H' σ' r' → D'.bk σ' H')
    (hrt : D'.rt = D.rt) (h : PostS c D (match m with | .st => .st | .ok f r2 => (match f with | .rt fr d => .ok (.rt fr d) r2 | _ => .ok .nx r2) | .ex e r2 => .ex e r2) ∨ True) (hr : ∀ fr d r', m = .ok (.rt fr d) r' → PostS c D (.ok (.rt fr d) r')) (hx : ∀ e r', m = .ex e r' → PostS c D (.ex e r')) (hs : m ≠ .st) : PostS ((c.lp r H).mv al) D' m := by
  cases m with
  | st => exact hs rfl
  | ex e r' =>
    intro al' σ' H' cls dd E' x
    exact hx e r' rfl al' σ' H' cls dd (E.unlp E') (x.mono' fun a q => q)
  | ok f r' =>
    intro al' σ' H' E'
    cases f with
    | nx => exact hnx r' rfl al' σ' H' E'
    | ct => exact hct r' rfl al' σ' H' E'
    | bk => exact hbk r' rfl al' σ' H' (E.unlp E')
    | rt fr d =>
      intro v q
      rw [hrt]
      refine hr fr d r' rfl al' σ' H' (E.unlp E') v ?_
      unfold RtV at q ⊢
      split at q
      · rename_i e; rw [if_pos e]
        obtain ⟨a, e1, w, p, n, o⟩ := q
        exact ⟨a, e1, w, p, lp_none E n, o⟩
      · rename_i e; rw [if_neg e]; exact q
end
section
variable {X : Cx} {cm : Nat → Value} {sg : List Sig} {tb : List Fn} {gs : List (Str × PyData)} {k : Nat}
theorem snds_for {t : Tg} {it : Di.It} {b : Ss} {tg iter : Expr} {body : List Stmt} {p : Pos} (hp : PassesOwn (model X.prog X.w) X.A X.env X.xe) (C : Cok X cm sg tb gs k) (hI : SndI X cm tb it tg iter) (hG : PG X tg (tgG X.K t)) (hB : SndSs X cm (exs tb b) body)
    (hs : ∀ x, foldedSetIterable iter X.env x = pure x) : SndS X cm (ex1 tb (.for_ t it b)) (.For tg iter body [] p) := by
  intro c r σ H D hK hcm tk E h
  unfold ex1 at h
  refine SS.of (ps_for hp C.hc (si tg iter) hG (sss body) hs) ?_
  refine hI c r σ H _ hK hcm tk E (h.e fun ds r0 _ J H1 E1 k1 u1 q1 h1 => ?_)
  obtain ⟨G, g0, gk, jw⟩ := q1
  refine ⟨fun i m σ' H' => m = ds.length - i ∧ i ≤ ds.length ∧ ∃ r' al, Er ((c.lp r0 H1).mv al) H' σ' r' ∧ PostS c D (forGo t (exs tb b) (ds.drop i) r'), ⟨_, rfl, Nat.zero_le _, r0, c.al, E1.lp, h1⟩, ?_⟩
  rintro i m σi Hi ⟨rfl, hi, ri, al, Ei, go⟩
  have gi := gk _ (lp_kp E1 Ei)
  by_cases hlt : i < ds.length
  · obtain ⟨d, hd⟩ : ∃ d, ds[i]? = some d := ⟨ds[i], List.getElem?_eq_getElem hlt⟩
    have drop_ : ds.drop i = d :: ds.drop (i + 1) := by
      rw [List.drop_eq_getElem_cons hlt]
      rw [List.getElem?_eq_getElem hlt] at hd
      cases hd; rfl
    rw [drop_] at go
    unfold forGo at go
    obtain ⟨jgo, jyld⟩ := (jw i Hi gi).1 d hd
    refine .inr ⟨jgo, fun σn Hn => ∃ r' al, Er ((c.lp r0 H1).mv al) Hn σn r' ∧ PostS c D (forGo t (exs tb b) (ds.drop (i + 1)) r'), fun σn Hn q => ⟨ds.length - (i + 1), by omega, rfl, hlt, q⟩, fun y Hy hy => ?_⟩
    obtain ⟨ex, rp⟩ := jyld y Hy hy
    have rx' := rp (Av' ((c.lp r0 H1).mv al) ri) (fun a h => lp_av E1 Ei h) (fun a h => Ei.free h)
    have Ei := Ei.ext ex
    obtain ⟨r1, ea, go⟩ := go.lift
    rw [← hK]
    refine asgT_ok (c := (c.lp r0 H1).mv al) Ei ea rx' fun σ2 E2 l2 o2 av2 => ?_
    refine hB ((c.lp r0 H1).mv al) r1 σ2 Hy _ hK hcm tk E2 ?_
    cases q : exs tb b r1 with
    | st => rw [q] at go; exact go.elim
    | ex e r2 =>
      rw [q] at go
      exact postS_lp E1 (D := D) (fun _ e => by cases e) (fun _ e => by cases e) (fun _ e => by cases e) rfl (.inr trivial) (fun _ _ _ e => by cases e) (fun e' r' e => by cases e; exact go) (by simp)
    | ok f r2 =>
      rw [q] at go
      refine postS_lp E1 (D := D) (fun r' e al' σ' H' E' => ?_) (fun r' e al' σ' H' E' => ?_) (fun r' e al' σ' H' E' => ?_) rfl (.inr trivial) (fun fr d r' e => ?_) (fun _ _ e => by cases e) (by simp)
      · cases e; exact ⟨r2, al', E', go⟩
      · cases e; exact ⟨r2, al', E', go⟩
      · cases e; exact go al' σ' H' E'
      · cases e; exact go
  · have e : i = ds.length := by omega
    subst e
    rw [List.drop_length] at go
    exact .inl ⟨(jw _ Hi gi).2 rfl, go al σi Hi (E1.unlp Ei)⟩
theorem snds_whl {n : Nat} {ce : E} {b : Ss} {ee : Expr} {body : List Stmt} {p : Pos} (hp : PassesOwn (model X.prog X.w) X.A X.env X.xe) (hc : SndT X cm tb ce ee) (hB : SndSs X cm (exs tb b) body) : SndS X cm (ex1 tb (.whl n ce b)) (.While ee body [] p) := by
  intro c r σ H D hK hcm tk E h
  unfold ex1 at h
  refine SS.of (ps_while hp (stt ee) (sss body)) ⟨fun m σ' H' => ∃ r' al, Er (c.mv al) H' σ' r' ∧ PostS c D (whGo (ev tb ce) (exs tb b) m r'), ⟨n, r, c.al, E, h⟩, ?_⟩
  rintro m σi Hi ⟨ri, al, Ei, go⟩
  cases m with
  | zero => exact go.elim
  | succ m =>
    unfold whGo at go
    have go' : PostS (c.mv al) D (((ev tb ce ri).bind tst).bind fun k r => if k = true then (exs tb b r).bind fun f r2 => match f with
      | .nx => whGo (ev tb ce) (exs tb b) m r2
      | .ct => whGo (ev tb ce) (exs tb b) m r2
      | .bk => .ok .nx r2
      | .rt fr d => .ok (.rt fr d) r2
      else .ok .nx r) := by rw [R.bind_assoc]; exact go
    refine hc (c.mv al) ri σi Hi _ hK hcm tk Ei (go'.e fun b0 r1 _ b' H1 E1 k1 u1 q1 h1 => ?_)
    have eb : b' = b0 := q1
    subst eb
    cases b' with
    | false => exact h1 al σi H1 E1
    | true =>
      rw [if_pos rfl] at h1 ⊢
      refine ⟨fun σn Hn => ∃ r' al, Er (c.mv al) Hn σn r' ∧ PostS c D (whGo (ev tb ce) (exs tb b) m r'), fun σn Hn q => ⟨m, Nat.lt_succ_self m, q⟩, ?_⟩
      refine hB (c.mv al) r1 σi H1 _ hK hcm tk E1 ?_
      cases q : exs tb b r1 with
      | st => rw [q] at h1; exact h1.elim
      | ex e r2 => rw [q] at h1; exact h1
      | ok f r2 =>
        rw [q] at h1
        intro al' σ' H' E'
        cases f with
        | nx => exact ⟨r2, al', E', h1⟩
        | ct => exact ⟨r2, al', E', h1⟩
        | bk => exact h1 al' σ' H' E'
        | rt fr d => exact h1 al' σ' H' E'
end
end Di
namespace Di
open PySem PySem.Spec PyProof.Rows L2
section
variable {X : Cx} {cm : Nat → Value} {sg : List Sig} {tb : List Fn} {gs : List (Str × PyData)} {k : Nat}
theorem snds_asgT {is : List Nat} {e : E} {tg ee : Expr} {pos : Pos} (he : Snd X cm tb e ee) (hG : PG X tg (tgG X.K (.t is))) (hs : swapsWithSole [tg] ee pos.line X.env = pure false) (hw : swappedStores [tg] ee X.env = pure none)
    (h1 : (assignEach [tg] X.env).map (·.2) = [assign tg X.env]) : SndS X cm (ex1 tb (.asg (.t is) e)) (.Assign [tg] ee pos) := by
  intro c r σ H D hK hcm tk E h
  unfold ex1 at h
  refine SS.of (ps_asg (se ee) hG hs hw h1) ?_
  refine he c r σ H _ hK hcm tk E (h.e fun x r1 _ v H1 E1 k1 u1 q1 h1 => ?_)
  obtain ⟨d, r2, _, E2, u2, rp, h2⟩ := PostS.cap E1 q1 h1
  obtain ⟨r3, ea, h3⟩ := h2.lift
  rw [← hK]
  exact asgT_ok E2 ea rp fun σ' E3 l3 o3 av3 => h3 c.al σ' H1 E3
theorem snds_set2 {i j : Nat} {e : E} {x y : Str} {ee : Expr} {p p' pos : Pos} (C : Cok X cm sg tb gs k) (he : Snd X cm tb e ee) (hi : X.N[i]? = some x) (hx : Loc X.env.scope x) (hf : X.fn x = true ∨ X.env.scope.names.lookup x = some .local) (hj : X.N[j]? = some y) (hy : Loc X.env.scope y) (hf' : X.fn y = true ∨ X.env.scope.names.lookup y = some .local)
    (ha : (assignEach [.Name x p, .Name y p'] X.env).map (·.2) = [assign (.Name x p) X.env, assign (.Name y p') X.env]) (hw : swappedStores [.Name x p, .Name y p'] ee X.env = pure none) : SndS X cm (ex1 tb (.set2 i j e)) (.Assign [.Name x p, .Name y p'] ee pos) := by
  intro c r σ H D hK hcm tk E h
  unfold ex1 at h
  refine SS.of (ps_asg2 (se ee) (pg_name C.nd hi hx hf) (pg_name C.nd hj hy hf') ha hw) ?_
  refine he c r σ H _ hK hcm tk E (h.e fun x r1 _ v H1 E1 k1 u1 q1 h1 => ?_)
  obtain ⟨d, r2, _, E2, u2, rp, h2⟩ := PostS.cap E1 q1 h1
  obtain ⟨r3, e3, h3⟩ := h2.lift
  obtain ⟨r4, e4, h4⟩ := h3.lift
  obtain ⟨hi3, q3, nr3⟩ := setN_spec e3
  subst q3
  obtain ⟨hi4, q4, nr4⟩ := setN_spec e4
  subst q4
  obtain ⟨E3, av3⟩ := E2.setsh (v := some v) hi3 nr3 (.inr ⟨d, v, rfl, rfl, rp⟩)
  obtain ⟨E4, av4⟩ := E3.setsh (v := some v) hi4 nr4 (.inr ⟨d, v, rfl, rfl, rp.mono (Kp.refl _ _) av3⟩)
  exact h4 c.al _ H1 E4
theorem snds_aug {i : Nat} {o : Bop} {e : E} {x : Str} {ee : Expr} {p pos : Pos} (C : Cok X cm sg tb gs k) (he : Snd X cm tb e ee) (hi : X.N[i]? = some x) (hx : Loc X.env.scope x) (hf : X.fn x = true ∨ X.env.scope.names.lookup x = some .local) : SndS X cm (ex1 tb (.aug i o e)) (.AugAssign (.Name x p) (bopO o) ee pos) := by
  intro c r σ H D hK hcm tk E h
  unfold ex1 at h
  cases q : slot r i with
  | un => rw [q] at h; exact h.elim
  | ow d => rw [q] at h; exact h.elim
  | rf d => rw [q] at h; exact h.elim
  | sh d =>
    cases d <;> rw [q] at h <;> try exact h.elim
    rename_i a
    obtain ⟨v, hv, rv0⟩ := E.sh i _ q
    cases rv0
    have main : ∀ {ti : TIp}, PIp X (bopO o) ti → (∀ (b z : Int) H Q, augD o a (.int b) = some z → Q (.int z) H → ti (.int a) (.int b) H Q) → SS X (.AugAssign (.Name x p) (bopO o) ee pos) D σ H := fun {ti} hti ht => by
      refine SS.of (ps_aug C.nd hi hx (se ee) hti hf) ⟨_, hv, ?_⟩
      refine he c r σ H _ hK hcm tk E (h.e fun y r1 _ w H1 E1 k1 u1 q1 h1 => ?_)
      obtain ⟨d, ed, h2⟩ := h1.lift
      obtain ⟨z, ez, h3⟩ := h2.lift
      obtain ⟨r3, e3, h4⟩ := h3.lift
      obtain ⟨hi3, q3, nr3⟩ := setN_spec e3
      subst q3
      obtain ⟨E3, av3⟩ := E1.setsh (v := some (.int z)) hi3 nr3 (.inr ⟨_, _, rfl, rfl, .int z⟩)
      have vw := RV.vw E1 q1.base ed
      cases d <;> (try (cases o <;> cases ez; done))
      rename_i b
      cases vw
      exact ht b z H1 _ ez (h4 c.al _ H1 E3)
    cases o with
    | add => exact main ip_add fun b z H Q e q => by cases e; exact ⟨_, _, rfl, rfl, q⟩
    | sub => exact main ip_sub fun b z H Q e q => by cases e; exact ⟨_, _, rfl, rfl, q⟩
    | _ =>
      exact SS.of (ps_aug (ti := fun _ _ _ _ => False) C.nd hi hx (se ee) (fun _ _ _ _ _ _ _ _ _ _ _ _ h => h.elim) hf) ⟨_, hv, he c r σ H _ hK hcm tk E (h.e fun y r1 _ w H1 E1 k1 u1 q1 h1 => by
        obtain ⟨d, ed, h2⟩ := h1.lift
        obtain ⟨z, ez, h3⟩ := h2.lift
        cases ez)⟩
theorem setO_spec {r r' : En} {i : Nat} {x d : PyData} (h : setO r i x d = some r') : ∃ xs j m, ownL (slot r i) = some xs ∧ x = .int m ∧ ixN xs.length m = some j ∧ r' = chg r i (.list (xs.set j d)) := by
  unfold setO at h
  cases q : ownL (slot r i) with
  | none => rw [q] at h; cases h
  | some xs =>
    rw [q] at h
    cases x <;> simp only [setC, Option.map_none] at h <;> first | (cases h; done) | skip
    rename_i m
    cases q2 : ixN xs.length m with
    | none => rw [q2] at h; cases h
    | some j => rw [q2] at h; cases h; exact ⟨xs, j, m, rfl, rfl, q2, rfl⟩
theorem own_dict {c : Ct} {σ : L2.St} {H : Hp} {r : En} (E : Er c H σ r) {i : Nat} {ks : List (PyData × PyData)} (h : (slot r i).own = true) (hd : (slot r i).data = some (.dict ks)) : σ[i]? = some (some (.ref (c.al i))) ∧ ∃ vs, H (c.al i) = some (.dK vs) ∧ RpD c.K H (Av' c r) vs ks := by
  obtain ⟨hv, w⟩ := E.on i _ h hd
  cases w with
  | dic w g => exact ⟨hv, _, w, g⟩
theorem ownK_own {s : Sl} {ks : List (PyData × PyData)} (h : ownK s = some ks) : s.own = true ∧ s.data = some (.dict ks) := by
  cases s with
  | un => cases h
  | sh d => cases h
  | ow d => cases d <;> cases h; exact ⟨rfl, rfl⟩
  | rf d => cases d <;> cases h; exact ⟨rfl, rfl⟩
theorem kOf_kD {k : Key} : kOf (kD k) = some k := by cases k <;> rfl
theorem RpD.any {K : PySem.W.Frag} {H : Hp} {P : Addr → Prop} {k : Key} {ds : List (PyData × PyData)} : ∀ {vs : List (Key × V)}, RpD K H P vs ds → (vs.any fun kv => decide (kv.1 = k)) = ds.any fun p => decide (kOf p.1 = some k) := by
  induction ds with
  | nil => intro vs h; cases h; rfl
  | cons d ds ih =>
    intro vs h
    cases h with
    | cons h g =>
      rw [List.any_cons, List.any_cons, ih g, kOf_kD]
      congr 1
      rw [Bool.eq_iff_iff, decide_eq_true_eq, decide_eq_true_eq, Option.some.injEq]
theorem RpD.maps {K : PySem.W.Frag} {H : Hp} {P : Addr → Prop} {k : Key} {v : V} {d : PyData} (r : Rp K H P v d) {ds : List (PyData × PyData)} : ∀ {vs : List (Key × V)}, RpD K H P vs ds → RpD K H P (vs.map fun kv => if kv.1 = k then (kv.1, v) else kv) (ds.map fun p => if kOf p.1 = some k then (p.1, d) else p) := by
  induction ds with
  | nil => intro vs h; cases h; exact .nil
  | cons e ds ih =>
    intro vs h
    cases h with
    | cons h g =>
      rename_i k' _ _ _
      rw [List.map_cons, List.map_cons, kOf_kD]
      by_cases q : k' = k
      · rw [if_pos q, if_pos (by rw [q])]
        exact .cons r (ih g)
      · rw [if_neg q, if_neg (by simpa using q)]
        exact .cons h (ih g)
theorem RpD.push {K : PySem.W.Frag} {H : Hp} {P : Addr → Prop} {k : Key} {v : V} {d : PyData} (r : Rp K H P v d) {ds : List (PyData × PyData)} : ∀ {vs : List (Key × V)}, RpD K H P vs ds → RpD K H P (vs ++ [(k, v)]) (ds ++ [(kD k, d)]) := by
  induction ds with
  | nil => intro vs h; cases h; exact .cons r .nil
  | cons e ds ih => intro vs h; cases h with | cons h g => exact .cons h (ih g)
theorem RpD.put {K : PySem.W.Frag} {H : Hp} {P : Addr → Prop} {k : Key} {v : V} {d : PyData} (r : Rp K H P v d) {ds : List (PyData × PyData)} {vs : List (Key × V)} (g : RpD K H P vs ds) : RpD K H P (putK vs k v) (putD ds k d) := by
  unfold putK putD
  rw [← g.any]
  split
  · exact g.maps r
  · exact g.push r
/-- o[k] = v where o is a name with an own dict -/
theorem snds_dst {i : Nat} {xe e : E} {x : Str} {ex ee : Expr} {p p2 pos : Pos} (C : Cok X cm sg tb gs k) (hv : PE X (.Name x p) (tVar i)) (hxe : Snd X cm tb xe ex) (he : Snd X cm tb e ee)
    (ha : ∀ v, assign (.Subscript (.Name x p) ex p2) X.env v = (do
      let ov ← holding [v] (eval (.Name x p) X.env)
      let iv ← holding [v, ov] (eval ex X.env)
      standAt p2
      holding [v, ov, iv] (setItem ov iv v)
      release [v, ov, iv] []))
    (hs : swapsWithSole [.Subscript (.Name x p) ex p2] ee pos.line X.env = pure false) (hw : swappedStores [.Subscript (.Name x p) ex p2] ee X.env = pure none)
    (h1 : (assignEach [.Subscript (.Name x p) ex p2] X.env).map (·.2) = [assign (.Subscript (.Name x p) ex p2) X.env]) : SndS X cm (ex1 tb (.dst i xe e)) (.Assign [.Subscript (.Name x p) ex p2] ee pos) := by
  intro c r σ H D hK hcm tk E h
  unfold ex1 at h
  refine SS.of (ps_asg (se ee) (pg_sub (se (.Name x p)) (se ex) (set_dict (by have := C.hu; omega)) ha) hs hw h1) ?_
  refine he c r σ H _ hK hcm tk E (h.e fun y r1 _ v H1 E1 k1 u1 q1 h1 => ?_)
  obtain ⟨d, r2, _, E2, u2, rp, h2⟩ := PostS.cap E1 q1 h1
  obtain ⟨ks0, e0, h⟩ := h2.lift
  obtain ⟨o1, o2⟩ := ownK_own e0
  obtain ⟨hσ, vs0, hw0, _⟩ := own_dict E2 o1 o2
  refine SE.of hv ⟨_, hσ, ?_⟩
  refine hxe c _ σ _ _ hK hcm tk E2 (h.e fun xv r3 _ w H3 E3 k3 u3 q3 h3 => ?_)
  obtain ⟨dk, ek, h4⟩ := h3.lift
  obtain ⟨key, eky, h5⟩ := h4.lift
  obtain ⟨ks, e1, h6⟩ := h5.lift
  obtain ⟨o3, o4⟩ := ownK_own e1
  obtain ⟨_, vs, hw, g⟩ := own_dict E3 o3 o4
  have vw := RV.vw E3 q3.base ek
  have wk : w = kV key := by
    cases vw <;> cases eky <;> rfl
  subst wk
  split at h6
  · rename_i len
    refine ⟨_, upd H3 (c.al i) (.dK (putK vs key v)), rfl, .inl ⟨vs, key, hw, rfl, by rw [g.length]; exact len, rfl⟩, ?_⟩
    have k0 : ∀ a o, a ≠ c.al i → H3 a = some o → upd H3 (c.al i) (.dK (putK vs key v)) a = some o := fun a o ne e => by rw [upd_ne ne]; exact e
    have kp : Kp (Av' c r3) H3 (upd H3 (c.al i) (.dK (putK vs key v))) := fun a o p e => k0 a o (p.2 i o3) e
    have rp1 : Rp c.K H3 (Av' c r3) v d := rp.mono k3 fun a => u3.av
    obtain ⟨E4, _⟩ := Er.chg E3 o3 k0 (.dic upd_same ((g.put rp1).mono kp fun _ p => p))
    exact h6 c.al σ _ E4
  · exact h6.elim
/-- o[i] = v where o is a name with an own list -/
theorem six_ok {i : Nat} {xe : E} {x : Str} {ex : Expr} {p : Pos} {c : Ct} {r : En} {σ : L2.St} {H : Hp} {D : Ends} {F : L2.St → Hp → Prop} {d : PyData} {v : V} {kk : En → R Fl} (hv : PE X (.Name x p) (tVar i)) (hxe : Snd X cm tb xe ex) (hK : c.K = X.K) (hcm : c.cm = cm) (tk : Takes X c.W) (E : Er c H σ r) (rp : Rp c.K H (Av' c r) v d)
    (h : PostS c D ((lift (ownL (slot r i)) r).bind fun _ r => (ev tb xe r).bind fun k r => (lift (res r k) r).bind fun k r => (lift (setO r i k d) r).bind fun r' _ => kk r'))
    (q : ∀ r' H', Er c H' σ r' → Kp (Av' c r) H H' → (∀ a, Av' c r a → Av' c r' a) → PostS c D (kk r') → F σ H') : gSub (SE X (.Name x p)) (SE X ex) rSetL v σ H F := by
  obtain ⟨xs0, e0, h⟩ := h.lift
  obtain ⟨o1, o2⟩ := ownL_own e0
  obtain ⟨hσ, vs0, hw0, _⟩ := own_list E o1 o2
  refine SE.of hv ⟨_, hσ, ?_⟩
  refine hxe c r σ H _ hK hcm tk E (h.e fun xv r1 _ w H1 E1 k1 u1 q1 h1 => ?_)
  obtain ⟨dk, ek, h2⟩ := h1.lift
  obtain ⟨r', er, h3⟩ := h2.lift
  obtain ⟨xs, j, m, e1, e2, e3, e4⟩ := setO_spec er
  subst e2 e4
  obtain ⟨o3, o4⟩ := ownL_own e1
  obtain ⟨_, vs, hw, g⟩ := own_list E1 o3 o4
  have vw := RV.vw E1 q1.base ek
  cases vw
  refine ⟨_, vs, m, j, rfl, rfl, hw, by rw [g.length]; exact e3, ?_⟩
  have k0 : ∀ a o, a ≠ c.al i → H1 a = some o → upd H1 (c.al i) (.lst (vs.set j v)) a = some o := fun a o ne e => by rw [upd_ne ne]; exact e
  have kp : Kp (Av' c r1) H1 (upd H1 (c.al i) (.lst (vs.set j v))) := fun a o p e => k0 a o (p.2 i o3) e
  have rp1 : Rp c.K H1 (Av' c r1) v d := rp.mono k1 fun a => u1.av
  have gs' : RpL c.K H1 (Av' c r1) (vs.set j v) (xs.set j d) := g.set rp1 j
  obtain ⟨E2, _⟩ := Er.chg E1 o3 k0 (.lst upd_same (gs'.mono kp fun _ p => p))
  exact q _ _ E2 (fun a o p e => kp a o (u1.av p) (k1 a o p e)) (fun a p => (chg_av o3 a).mpr (u1.av p)) h3
theorem snds_six {i : Nat} {xe e : E} {x : Str} {ex ee : Expr} {p p2 pos : Pos} (hv : PE X (.Name x p) (tVar i)) (hxe : Snd X cm tb xe ex) (he : Snd X cm tb e ee)
    (ha : ∀ v, assign (.Subscript (.Name x p) ex p2) X.env v = (do
      let ov ← holding [v] (eval (.Name x p) X.env)
      let iv ← holding [v, ov] (eval ex X.env)
      standAt p2
      holding [v, ov, iv] (setItem ov iv v)
      release [v, ov, iv] []))
    (hs : swapsWithSole [.Subscript (.Name x p) ex p2] ee pos.line X.env = pure false) (hw : swappedStores [.Subscript (.Name x p) ex p2] ee X.env = pure none)
    (h1 : (assignEach [.Subscript (.Name x p) ex p2] X.env).map (·.2) = [assign (.Subscript (.Name x p) ex p2) X.env]) : SndS X cm (ex1 tb (.six i xe e)) (.Assign [.Subscript (.Name x p) ex p2] ee pos) := by
  intro c r σ H D hK hcm tk E h
  unfold ex1 at h
  refine SS.of (ps_asg (se ee) (pg_sub (se (.Name x p)) (se ex) set_list ha) hs hw h1) ?_
  refine he c r σ H _ hK hcm tk E (h.e fun y r1 _ v H1 E1 k1 u1 q1 h1 => ?_)
  obtain ⟨d, r2, _, E2, u2, rp, h2⟩ := PostS.cap E1 q1 h1
  exact six_ok (kk := fun r' => .ok .nx r') hv hxe hK hcm tk E2 rp h2 fun r' H' E' _ _ h3 => h3 c.al σ H' E'
theorem snds_swp {i : Nat} {ae be e : E} {x : Str} {ea eb ee : Expr} {p p2 p3 p4 pt pos : Pos} {kt : Nat} (C : Cok X cm sg tb gs k) (hv : PE X (.Name x p) (tVar i)) (hv' : PE X (.Name x p3) (tVar i)) (ha : Snd X cm tb ae ea) (hb : Snd X cm tb be eb) (he : Snd X cm tb e ee)
    (hsa : ∀ v, assign (.Subscript (.Name x p) ea p2) X.env v = (do
      let ov ← holding [v] (eval (.Name x p) X.env)
      let iv ← holding [v, ov] (eval ea X.env)
      standAt p2
      holding [v, ov, iv] (setItem ov iv v)
      release [v, ov, iv] []))
    (hsb : ∀ v, assign (.Subscript (.Name x p3) eb p4) X.env v = (do
      let ov ← holding [v] (eval (.Name x p3) X.env)
      let iv ← holding [v, ov] (eval eb X.env)
      standAt p4
      holding [v, ov, iv] (setItem ov iv v)
      release [v, ov, iv] []))
    (ht : ∀ (T : TGs), PGs X [.Subscript (.Name x p) ea p2, .Subscript (.Name x p3) eb p4] T → PG X (.Tuple [.Subscript (.Name x p) ea p2, .Subscript (.Name x p3) eb p4] kt pt) (gTup X.K 2 T))
    (he1 : (assignEach [.Subscript (.Name x p) ea p2, .Subscript (.Name x p3) eb p4] X.env).map (·.2) = assign (.Subscript (.Name x p) ea p2) X.env :: (assignEach [.Subscript (.Name x p3) eb p4] X.env).map (·.2))
    (he2 : (assignEach [.Subscript (.Name x p3) eb p4] X.env).map (·.2) = assign (.Subscript (.Name x p3) eb p4) X.env :: (assignEach [] X.env).map (·.2))
    (hs : swapsWithSole [.Tuple [.Subscript (.Name x p) ea p2, .Subscript (.Name x p3) eb p4] kt pt] ee pos.line X.env = pure false) (hw : swappedStores [.Tuple [.Subscript (.Name x p) ea p2, .Subscript (.Name x p3) eb p4] kt pt] ee X.env = pure none)
    (h1 : (assignEach [.Tuple [.Subscript (.Name x p) ea p2, .Subscript (.Name x p3) eb p4] kt pt] X.env).map (·.2) = [assign (.Tuple [.Subscript (.Name x p) ea p2, .Subscript (.Name x p3) eb p4] kt pt) X.env]) :
    SndS X cm (ex1 tb (.swp i ae be e)) (.Assign [.Tuple [.Subscript (.Name x p) ea p2, .Subscript (.Name x p3) eb p4] kt pt] ee pos) := by
  intro c r σ H D hK hcm tk E h
  unfold ex1 at h
  refine SS.of (ps_asg (se ee) (ht _ (pgs_cons (pg_sub (se (.Name x p)) (se ea) set_list hsa) (pgs_cons (pg_sub (se (.Name x p3)) (se eb) set_list hsb) pgs_nil he2) he1)) hs hw h1) ?_
  refine he c r σ H _ hK hcm tk E (h.e fun y r1 _ v H1 E1 k1 u1 q1 h1 => ?_)
  obtain ⟨d, r2, _, E2, u2, rp, h2⟩ := PostS.cap E1 q1 h1
  cases d with
  | tuple ds =>
    match ds with
    | [] => exact h2.elim
    | [_] => exact h2.elim
    | _ :: _ :: _ :: _ => exact h2.elim
    | [dx, dy] =>
      cases rp with
      | tup l g =>
        cases g with
        | cons gx g =>
          cases g with
          | cons gy g =>
            cases g
            refine ⟨_, _, rfl, hK ▸ l.sq, rfl, _, _, rfl, ?_⟩
            refine six_ok (tb := tb) (D := D) (kk := fun r => (lift (ownL (slot r i)) r).bind fun _ r => (ev tb be r).bind fun k r => (lift (res r k) r).bind fun k r => (lift (setO r i k dy) r).bind fun r _ => .ok .nx r) hv ha hK hcm tk E2 gx h2 fun r' H' E' kp av h3 => ?_
            refine ⟨_, _, rfl, ?_⟩
            exact six_ok (tb := tb) (D := D) (kk := fun r' => .ok .nx r') hv' hb hK hcm tk E' (gy.mono kp av) h3 fun r'' H'' E'' _ _ h4 => ⟨rfl, h4 c.al σ H'' E''⟩
  | _ => exact h2.elim
theorem snds_par2 {i j : Nat} {as : Es} {x y : Str} {a b : Expr} {px py pt pos : Pos} {kt k2 pt2} (C : Cok X cm sg tb gs k) (hi : X.N[i]? = some x) (hj : X.N[j]? = some y) (hij : i ≠ j) (hx : X.env.scope.names.lookup x = some .local) (hy : X.env.scope.names.lookup y = some .local) (ha : SndA X cm tb as [a, b])
    (hw : swappedStores [.Tuple [.Name x px, .Name y py] kt pt] (.Tuple [a, b] k2 pt2) X.env = pure (some [x, y])) (hs : swapsWithSole [.Tuple [.Name x px, .Name y py] kt pt] (.Tuple [a, b] k2 pt2) pos.line X.env = pure false) :
    SndS X cm (ex1 tb (.par [i, j] as)) (.Assign [.Tuple [.Name x px, .Name y py] kt pt] (.Tuple [a, b] k2 pt2) pos) := by
  intro c r σ H D hK hcm tk E h
  unfold ex1 at h
  refine SS.of (ps_par C.hc C.nd hi hj hij hx hy (sa [a, b]) hw hs) ?_
  refine ha c r σ H _ hK hcm tk E (h.e fun ds r1 _ vs H1 E1 k1 u1 q1 h1 => ?_)
  obtain ⟨r2, e2, h2⟩ := h1.lift
  have q1 : RpL c.K H1 (Av' c r1) vs ds := q1
  have z := asgL_ok (Q := fun σ' H' => H' = H1 ∧ D.nx σ' H1) E1 e2 q1 fun σ' E' _ _ _ => ⟨rfl, h2 c.al σ' H1 E'⟩
  obtain ⟨v, rest, rfl, v2, rest2, rfl, rfl, _, z⟩ := z
  exact ⟨v, v2, rfl, z⟩
theorem snds_par3 {i j l : Nat} {as : Es} {x y z : Str} {a b c : Expr} {px py pz pt pos : Pos} {kt k2 pt2} (C : Cok X cm sg tb gs k) (hi : X.N[i]? = some x) (hj : X.N[j]? = some y) (hl : X.N[l]? = some z) (hij : i ≠ j) (hil : i ≠ l) (hjl : j ≠ l) (hx : X.env.scope.names.lookup x = some .local) (hy : X.env.scope.names.lookup y = some .local) (hz : X.env.scope.names.lookup z = some .local) (ha : SndA X cm tb as [a, b, c])
    (hw : swappedStores [.Tuple [.Name x px, .Name y py, .Name z pz] kt pt] (.Tuple [a, b, c] k2 pt2) X.env = pure (some [x, y, z])) (hs : swapsWithSole [.Tuple [.Name x px, .Name y py, .Name z pz] kt pt] (.Tuple [a, b, c] k2 pt2) pos.line X.env = pure false) :
    SndS X cm (ex1 tb (.par [i, j, l] as)) (.Assign [.Tuple [.Name x px, .Name y py, .Name z pz] kt pt] (.Tuple [a, b, c] k2 pt2) pos) := by
  intro c r σ H D hK hcm tk E h
  unfold ex1 at h
  refine SS.of (ps_par3 C.hc C.nd hi hj hl hij hil hjl hx hy hz (sa _) hw hs) ?_
  refine ha c r σ H _ hK hcm tk E (h.e fun ds r1 _ vs H1 E1 k1 u1 q1 h1 => ?_)
  obtain ⟨r2, e2, h2⟩ := h1.lift
  have q1 : RpL c.K H1 (Av' c r1) vs ds := q1
  have z := asgL_ok (Q := fun σ' H' => H' = H1 ∧ D.nx σ' H1) E1 e2 q1 fun σ' E' _ _ _ => ⟨rfl, h2 c.al σ' H1 E'⟩
  obtain ⟨v, rest, rfl, v2, rest2, rfl, v3, rest3, rfl, rfl, _, z⟩ := z
  exact ⟨v, v2, v3, rfl, z⟩
end
end Di
namespace Di
open PySem PySem.Spec PyProof.Rows L2
/-! ## a def of the text -/
theorem initE_len : ∀ {md : List Bool} {ds : List PyData} {n : Nat}, md.length = ds.length → md.length ≤ n → (initE n md ds).length = n
  | [], [], n, _, _ => by simp [initE]
  | m :: md, d :: ds, n, h, hn => by
    simp only [List.length_cons] at h hn
    simp only [initE, List.length_cons]
    rw [initE_len (by omega) (by omega)]; omega
  | [], _ :: _, _, h, _ => by cases h
  | _ :: _, [], _, h, _ => by cases h
theorem initE_slot : ∀ {md : List Bool} {ds : List PyData} {n : Nat} (i : Nat), md.length = ds.length → md.length ≤ n → slot (initE n md ds) i = match md[i]?, ds[i]? with
    | some true, some d => .rf d
    | some false, some d => .sh d
    | _, _ => .un
  | [], [], n, i, _, _ => by
    simp only [initE, slot, List.getElem?_nil]
    by_cases h : i < n
    · rw [List.getElem?_replicate, if_pos h]; rfl
    · rw [List.getElem?_replicate, if_neg h]; rfl
  | m :: md, d :: ds, n, 0, h, hn => by
    cases m <;> simp [initE, slot]
  | m :: md, d :: ds, n, i + 1, h, hn => by
    simp only [List.length_cons] at h hn
    have := initE_slot (md := md) (ds := ds) (n := n - 1) i (by omega) (by omega)
    unfold slot at this ⊢
    simpa [initE] using this
  | [], _ :: _, _, _, h, _ => by cases h
  | _ :: _, [], _, _, h, _ => by cases h
section
variable {K : PySem.W.Frag} {H H' : Hp} {Pa : Addr → Prop}
theorem aok_len : ∀ {md : List Bool} {vs : List V} {ds : List PyData} {l : List Addr}, AOk K H Pa md vs ds l → vs.length = md.length ∧ ds.length = md.length := by
  intro md vs ds l h
  induction h with
  | nil => exact ⟨rfl, rfl⟩
  | val _ _ ih => exact ⟨by simp [ih.1], by simp [ih.2]⟩
  | ref _ _ _ _ ih => exact ⟨by simp [ih.1], by simp [ih.2]⟩
theorem aok_val {md : List Bool} {vs : List V} {ds : List PyData} {l : List Addr} (h : AOk K H Pa md vs ds l) : ∀ {i : Nat}, md[i]? = some false → ∃ v d, vs[i]? = some v ∧ ds[i]? = some d ∧ Rp K H Pa v d := by
  induction h with
  | nil => intro i e; simp at e
  | val r _ ih =>
    intro i e
    cases i with
    | zero => exact ⟨_, _, rfl, rfl, r⟩
    | succ i => simpa using ih (i := i) (by simpa using e)
  | ref _ _ _ _ ih =>
    intro i e
    cases i with
    | zero => simp at e
    | succ i => simpa using ih (i := i) (by simpa using e)
theorem aok_ref {md : List Bool} {vs : List V} {ds : List PyData} {l : List Addr} (h : AOk K H Pa md vs ds l) : ∀ {i : Nat}, md[i]? = some true → ∃ a d, vs[i]? = some (.ref a) ∧ ds[i]? = some d ∧ Ow K H Pa a d ∧ ¬ Pa a ∧ a ∈ l := by
  induction h with
  | nil => intro i e; simp at e
  | val r _ ih =>
    intro i e
    cases i with
    | zero => simp at e
    | succ i => simpa using ih (i := i) (by simpa using e)
  | ref w np nl _ ih =>
    intro i e
    cases i with
    | zero => exact ⟨_, _, rfl, rfl, w, np, List.mem_cons_self⟩
    | succ i =>
      obtain ⟨a, d, h1, h2, h3, h4, h5⟩ := ih (i := i) (by simpa using e)
      exact ⟨a, d, by simpa using h1, by simpa using h2, h3, h4, List.mem_cons_of_mem _ h5⟩
theorem aok_inj {md : List Bool} {vs : List V} {ds : List PyData} {l : List Addr} (h : AOk K H Pa md vs ds l) : ∀ {i j : Nat} {a : Addr}, md[i]? = some true → md[j]? = some true → vs[i]? = some (.ref a) → vs[j]? = some (.ref a) → i = j := by
  induction h with
  | nil => intro i j a e; simp at e
  | val r _ ih =>
    intro i j a e1 e2 e3 e4
    cases i with
    | zero => simp at e1
    | succ i =>
      cases j with
      | zero => simp at e2
      | succ j => rw [ih (i := i) (j := j) (by simpa using e1) (by simpa using e2) (by simpa using e3) (by simpa using e4)]
  | ref w np nl g ih =>
    intro i j a e1 e2 e3 e4
    cases i with
    | zero =>
      cases j with
      | zero => rfl
      | succ j =>
        obtain ⟨b, _, h1, _, _, _, h5⟩ := aok_ref g (i := j) (by simpa using e2)
        simp only [List.getElem?_cons_succ] at e4
        rw [h1] at e4
        simp only [List.getElem?_cons_zero] at e3
        cases e3; cases e4
        exact absurd h5 nl
    | succ i =>
      cases j with
      | zero =>
        obtain ⟨b, _, h1, _, _, _, h5⟩ := aok_ref g (i := i) (by simpa using e1)
        simp only [List.getElem?_cons_succ] at e3
        rw [h1] at e3
        simp only [List.getElem?_cons_zero] at e4
        cases e3; cases e4
        exact absurd h5 nl
      | succ j => rw [ih (i := i) (j := j) (by simpa using e1) (by simpa using e2) (by simpa using e3) (by simpa using e4)]
theorem aok_more {md : List Bool} {vs : List V} {ds : List PyData} {l : List Addr} (h : AOk K H Pa md vs ds l) {dv : List V} {dd : List PyData} (r : RpL K H Pa dv dd) : AOk K H Pa (md ++ List.replicate dd.length false) (vs ++ dv) (ds ++ dd) l := by
  induction h with
  | nil =>
    induction dd generalizing dv with
    | nil => cases r; exact .nil
    | cons d dd ih =>
      cases r with
      | cons a b => exact .val a (ih b)
  | val a _ ih => exact .val a ih
  | ref a b c _ ih => exact .ref a b c ih
theorem outs_ok {md : List Bool} {vs : List V} {ds : List PyData} {l : List Addr} {P' : Addr → Prop} (h : AOk K H Pa md vs ds l) : ∀ {r : En} {outs : List PyData}, outsE md r = some outs → (∀ (i : Nat) (a : Addr) (d : PyData), md[i]? = some true → vs[i]? = some (V.ref a) → r[i]? = some (Sl.rf d) → Ow K H' P' a d) → OOk K H' P' l outs := by
  induction h with
  | nil => intro r outs e _; cases e; exact .nil
  | val a _ ih =>
    intro r outs e g
    cases r with
    | nil => cases e
    | cons x r => exact ih (by simpa [outsE] using e) fun i a d h1 h2 h3 => g (i + 1) a d (by simpa using h1) (by simpa using h2) (by simpa using h3)
  | ref a b c _ ih =>
    intro r outs e g
    cases r with
    | nil => cases e
    | cons x r =>
      cases x with
      | rf d =>
        simp only [outsE, Option.map_eq_some_iff] at e
        obtain ⟨o, e1, e2⟩ := e
        subst e2
        exact .cons (g 0 _ d rfl rfl rfl) (ih e1 fun i a d h1 h2 h3 => g (i + 1) a d (by simpa using h1) (by simpa using h2) (by simpa using h3))
      | _ => cases e
end
theorem aok_flat {n : Nat} {vs : List V} {ds : List PyData} {l : List Addr} {K : PySem.W.Frag} {H : Hp} {Pa : Addr → Prop} (h : AOk K H Pa (List.replicate n false) vs ds l) : l = [] ∧ RpL K H Pa vs ds := by
  induction n generalizing vs ds l with
  | zero => cases h; exact ⟨rfl, .nil⟩
  | succ n ih =>
    rw [List.replicate_succ] at h
    cases h with
    | val r h => obtain ⟨a, b⟩ := ih h; exact ⟨a, .cons r b⟩
theorem aok_vals {K : PySem.W.Frag} {H : Hp} {Pa : Addr → Prop} : ∀ {ds : List PyData} {vs : List V}, RpL K H Pa vs ds → AOk K H Pa (List.replicate vs.length false) vs ds []
  | [], _, .nil => .nil
  | _ :: _, _, .cons r h => .val r (aok_vals h)
/-- what is known where a def's body runs -/
structure Kn (P : Program) (w : World) (K : PySem.W.Frag) (mg : Str → Option Value) (base : Heap) (cm : Nat → Value) (sg : List Sig) (tb : List Fn) (gs : List (Str × PyData)) (k : Nat) : Prop where
  bl : ∀ x ∈ (["len", "list", "tuple", "abs", "int", "max", "min", "repr", "all", "str", "range", "isinstance", "bool", "dict", "zip", "enumerate", "reversed", "sorted", "set", "sum", "any"] : List Str), mg x = none
  fn : ∀ (j : Nat) (s : Sig) (f : Fn), sg[j]? = some s → tb[j]? = some f → ∃ a, mg s.nm = some (.ref a) ∧ PySem.W.keepIn K (.ref a) = true ∧ FnG P w K mg base cm k a s.ks f
  gc : ∀ x d, (x, d) ∈ gs → GcOk K w mg x d
/-- a body of a def: what the reading of its text asks -/
structure BodyAt (X : Cx) (N : List Str) (scope : Scope) : Prop where
  hN : X.N = N
  sc : X.env.scope = scope
  fn : ∀ x, X.fn x = true
  own : PassesOwn (model X.prog X.w) X.A X.env X.xe
section
variable {P : Program} {w : World} {K : PySem.W.Frag} {mg : Str → Option Value} {base : Heap} {cm : Nat → Value} {sg : List Sig} {tb : List Fn} {gs : List (Str × PyData)} {k : Nat}
theorem Er.start {c : Ct} {md : List Bool} {vs : List V} {ds : List PyData} {l : List Addr} {N : List Str} (h : AOk c.K c.H0 c.P md vs ds l) (hn : md.length ≤ N.length) (hal : ∀ i a, md[i]? = some true → vs[i]? = some (.ref a) → c.al i = a) (hL : ∀ p : Nat × Addr, p ∈ c.L ↔ md[p.1]? = some true ∧ p.2 = c.al p.1) (hnew : ∀ a, c.H0 a = none → c.P a) : Er c c.H0 (L2.start N vs) (initE N.length md ds) := by
  obtain ⟨l1, l2⟩ := aok_len h
  have sl : ∀ i, slot (initE N.length md ds) i = _ := fun i => initE_slot i l2.symm hn
  have len := initE_len (n := N.length) l2.symm hn
  have sg' : ∀ i v, vs[i]? = some v → (L2.start N vs)[i]? = some (some v) := fun i v e => by
    unfold L2.start
    have hi := (List.getElem?_eq_some_iff.mp e).1
    rw [List.getElem?_append_left (by rw [List.length_map]; exact hi), List.getElem?_map, e]; rfl
  have own : ∀ i, (slot (initE N.length md ds) i).own = true → md[i]? = some true ∧ ∃ a d, vs[i]? = some (.ref a) ∧ ds[i]? = some d ∧ Ow c.K c.H0 c.P a d ∧ ¬ c.P a ∧ a ∈ l ∧ c.al i = a ∧ slot (initE N.length md ds) i = .rf d := fun i hi => by
    have e := sl i
    cases q : md[i]? with
    | none => rw [q] at e; simp only at e; rw [e] at hi; cases hi
    | some b =>
      cases b with
      | false =>
        rw [q] at e
        obtain ⟨v, d, _, h2, _⟩ := aok_val h q
        rw [h2] at e; simp only at e; rw [e] at hi; cases hi
      | true =>
        obtain ⟨a, d, h1, h2, h3, h4, h5⟩ := aok_ref h q
        refine ⟨rfl, a, d, h1, h2, h3, h4, h5, hal i a q h1, ?_⟩
        rw [e, q, h2]
  have av : ∀ a, c.P a → Av' c (initE N.length md ds) a := fun a p => ⟨p, fun i hi e => by
    obtain ⟨_, b, _, _, _, _, np, _, e2, _⟩ := own i hi
    rw [e2] at e; subst e; exact np p⟩
  refine ⟨?_, fun a o _ e => e, fun i d e => ?_, fun i d ho hd => ?_, fun i d e => ?_, fun i d e => ?_, fun i j hi hj e => ?_, fun p hp => ?_, hnew⟩
  · rw [len]
    unfold L2.start
    rw [List.length_append, List.length_map, List.length_replicate]; omega
  · have e2 := sl i
    rw [e] at e2
    cases q : md[i]? with
    | none => rw [q] at e2; cases e2
    | some b =>
      cases b with
      | true =>
        obtain ⟨a, d', h1, h2, _⟩ := aok_ref h q
        rw [q, h2] at e2; cases e2
      | false =>
        obtain ⟨v, d', h1, h2, r⟩ := aok_val h q
        rw [q, h2] at e2; cases e2
        exact ⟨v, sg' i v h1, r.mono (Kp.refl _ _) av⟩
  · obtain ⟨q, a, d', h1, h2, h3, h4, h5, h6, h7⟩ := own i ho
    rw [h7] at hd; cases hd
    exact ⟨by rw [h6]; exact sg' i _ h1, by rw [h6]; exact h3.mono (fun _ q => q) (Kp.refl _ _) av⟩
  · obtain ⟨_, _, _, _, _, _, _, _, _, h7⟩ := own i (by rw [e]; rfl)
    rw [e] at h7; cases h7
  · obtain ⟨q, _⟩ := own i (by rw [e]; rfl)
    exact (hL (i, c.al i)).mpr ⟨q, rfl⟩
  · obtain ⟨q1, a, _, h1, _, _, _, _, h6, _⟩ := own i hi
    obtain ⟨q2, b, _, g1, _, _, _, _, g6, _⟩ := own j hj
    rw [h6, g6] at e
    subst e
    exact aok_inj h q1 q2 h1 g1
  · obtain ⟨q, e⟩ := (hL p).mp hp
    obtain ⟨a, d, h1, h2, _⟩ := aok_ref h q
    exact ⟨e.symm, d, by rw [sl, q, h2]⟩
/-- THE RULE for a def, whatever its parameters are bound from -/
theorem fng_core {f : Addr} {name qual : Str} {params : Arguments} {body : List Stmt} {scope : Scope} {dV kV doc pm cdv ct oc : Value} {an od : Option Addr} {osl : Array (Option Value)} {N ps ks : List Str} {md md' : List Bool} {b : Ss} {pre : List PyData → Option (List PyData)}
    (lk : K.lookup f = some ⟨oc, od, .func (PySem.W.fnOf name qual params body scope dV kV doc pm an cdv ct), osl⟩) (hcd : PySem.W.codeIn K cdv qual = true) (S : FnScope N ps scope) (hl' : md'.length = ps.length)
    (hbnd : ∀ (A : Around) (outer : List Env) (s : Shared) (H : Hp) (us : List Value) (vs : List V) (E : XK) (Pa : Addr → Prop) (ds ds' : List PyData) (l : List Addr), Env0 P w K mg base A outer s H → Vals vs us → AOk K H Pa md vs ds l → (∀ a, H a = none → Pa a) → pre ds = some ds' →
      StX.Bnd (L2.CX P w) P w K mg base (PySem.W.fnOf name qual params body scope dV kV doc pm an cdv ct) (argsOf us ks) ps A outer s H E (fun vs' H2 => Ext H H2 ∧ AOk K H2 Pa md' vs' ds' l))
    (Kn0 : Kn P w K mg base cm sg tb gs k) (hB : ∀ X : Cx, BodyAt X N scope → Cok X cm sg tb gs k → SndSs X cm (exs tb b) body) :
    FnG P w K mg base cm (k + 1) f ks ⟨md, fun ds => match pre ds with | some ds' => fnRun tb N.length md' b ds' | none => .st⟩ := by
  intro A outer s H us vs Q E Pa ds l hg hr e0 rv aok hnew hks hfr
  have hpl : ps.length ≤ N.length := by have := congrArg List.length S.pre; rw [List.length_take] at this; omega
  cases hpre : pre ds with
  | none =>
    have z : FrP K cm H Pa l Q E (match pre ds with | some ds' => fnRun tb N.length md' b ds' | none => .st) := hfr
    rw [hpre] at z; exact z.elim
  | some ds' =>
  have hfr : FrP K cm H Pa l Q E (fnRun tb N.length md' b ds') := by
    have z : FrP K cm H Pa l Q E (match pre ds with | some ds' => fnRun tb N.length md' b ds' | none => .st) := hfr
    rw [hpre] at z; exact z
  refine StX.run_bnd lk hcd S hr e0 (hbnd A outer s H us vs E Pa ds ds' l e0 rv aok hnew hpre) fun s2 H2 vs' ⟨ext, aok'⟩ hr' => ?_
  · refine ⟨_, sss body, ?_⟩
    obtain ⟨l1, l2⟩ := aok_len aok'
    let al : Nat → Addr := fun i => match vs'[i]? with
      | some (.ref a) => a
      | _ => 0
    let L : List (Nat × Addr) := ((List.range md'.length).filter fun i => decide (md'[i]? = some true)).map fun i => (i, al i)
    let c : Ct := ⟨K, H2, Pa, L, al, fun cls d _ H' => E cls d H', cm⟩
    have hL : ∀ p : Nat × Addr, p ∈ c.L ↔ md'[p.1]? = some true ∧ p.2 = c.al p.1 := fun p => by
      show p ∈ L ↔ _
      simp only [L, List.mem_map, List.mem_filter, List.mem_range, decide_eq_true_eq]
      constructor
      · rintro ⟨i, ⟨_, h⟩, rfl⟩; exact ⟨h, rfl⟩
      · rintro ⟨h1, h2⟩
        exact ⟨p.1, ⟨(List.getElem?_eq_some_iff.mp h1).1, h1⟩, Prod.ext rfl h2.symm⟩
    have hal : ∀ i a, md'[i]? = some true → vs'[i]? = some (.ref a) → c.al i = a := fun i a _ e => by
      show (match vs'[i]? with | some (.ref a) => a | _ => 0) = a
      rw [e]
    have hnew2 : ∀ a, H2 a = none → Pa a := fun a h => hnew a (ext.none h)
    have E0 : Er c H2 (L2.start N vs') (initE N.length md' ds') := Er.start (c := c) aok' (by show md'.length ≤ _; omega) hal hL hnew2
    -- what is handed to the caller
    have kp : ∀ {al' : Nat → Addr} {H' : Hp} {σ' : L2.St} {r' : En}, Er (c.mv al') H' σ' r' → Kp (fun a => a ∉ l) H H' := fun {al' H' σ' r'} E' a o p e => E'.keep a o (fun q hq e2 => by
      obtain ⟨q1, q2⟩ := (hL q).mp hq
      obtain ⟨b, _, h1, _, _, _, h5⟩ := aok_ref aok' q1
      rw [hal _ _ q1 h1] at q2
      rw [e2, q2] at p
      exact p h5) (ext a o e)
    have oo : ∀ {al' : Nat → Addr} {H' : Hp} {σ' : L2.St} {r' : En} {P' : Addr → Prop} {outs : List PyData}, Er (c.mv al') H' σ' r' → outsE md' r' = some outs → (∀ i x, slot r' i = .rf x → Ow K H' P' (al' i) x) → OOk K H' P' l outs := fun {al' H' σ' r' P' outs} E' e g => outs_ok aok' e fun i a d h1 h2 h3 => by
      have m : (i, c.al i) ∈ c.L := (hL (i, c.al i)).mpr ⟨h1, rfl⟩
      obtain ⟨e1, _⟩ := E'.lent _ m
      have e1 : al' i = c.al i := e1
      have := g i d (by unfold slot; rw [h3]; rfl)
      rw [e1, hal i a h1 h2] at this
      exact this
    refine hB (cxOf (L2.CX P w) P w K mg base N qual scope f cdv A outer s2 H2 E) ⟨rfl, rfl, fun _ => rfl, passes_of rfl⟩ ⟨S.nd, rfl, hg, hr', Kn0.bl, Kn0.fn, Kn0.gc⟩ c _ _ _ _ rfl rfl (takes_of rfl rfl rfl rfl) E0 ?_
    have hfr' : FrP K cm H Pa l Q E (endF md' (exs tb b (initE N.length md' ds'))) := by
      have z := hfr
      unfold fnRun at z
      rwa [if_pos ⟨l2, by omega⟩] at z
    have fin0 : ∀ {al' : Nat → Addr} {H' : Hp} {σ' : L2.St} {r' : En} {x : PyData}, Er (c.mv al') H' σ' r' → ∀ i, slot r' i = .rf x → Ow K H' Pa (al' i) x := fun {al' H' σ' r' x} E' i e => by
      obtain ⟨_, w'⟩ := E'.on i x (by rw [e]; rfl) (by rw [e]; rfl)
      exact w'.mono (fun _ q => q) (Kp.refl _ _) fun _ h => h.1
    cases q : exs tb b (initE N.length md' ds') with
    | st => rw [q] at hfr'; exact hfr'
    | ex e r' =>
      rw [q] at hfr'
      intro al' σ' H' cls d E' x
      unfold endF at hfr'
      simp only at hfr'
      cases q2 : outsE md' r' with
      | none => rw [q2] at hfr'; exact hfr'.elim
      | some o =>
        rw [q2] at hfr'
        exact hfr' cls d H' (kp E') (oo E' q2 fun i x e => fin0 E' i e) (x.mono' fun _ h => h.1)
    | ok fl r' =>
      rw [q] at hfr'
      intro al' σ' H' E'
      cases fl with
      | bk => exact hfr'.elim
      | ct => exact hfr'.elim
      | nx =>
        unfold endF at hfr'
        simp only at hfr'
        cases q2 : outsE md' r' with
        | none => rw [q2] at hfr'; exact hfr'.elim
        | some o =>
          rw [q2] at hfr'
          exact hfr' .non H' (kp E') (by rw [if_neg (by decide)]; exact ⟨.non, oo E' q2 fun i x e => fin0 E' i e⟩)
      | rt fr d =>
        unfold endF at hfr'
        simp only at hfr'
        cases q2 : outsE md' r' with
        | none => rw [q2] at hfr'; exact hfr'.elim
        | some o =>
          rw [q2] at hfr'
          intro v rt
          refine hfr' v H' (kp E') ?_
          unfold RtV at rt
          cases fr with
          | true =>
            rw [if_pos rfl] at rt ⊢
            obtain ⟨a, e1, w1, p1, n1, g⟩ := rt
            exact ⟨a, e1, w1, p1, ext.none n1, oo E' q2 fun i x e => g i x e⟩
          | false =>
            rw [if_neg (by decide)] at rt ⊢
            exact ⟨rt, oo E' q2 fun i x e => fin0 E' i e⟩
/-- THE RULE for a def whose parameters are all given, or have plain defaults -/
theorem fng_of {f : Addr} {name qual : Str} {params : Arguments} {body : List Stmt} {scope : Scope} {dV kV doc pm cdv ct oc : Value} {an od : Option Addr} {osl : Array (Option Value)} {N ps ks : List Str} {md : List Bool} {b : Ss} {dvs : List Value} {dv : List V} {dd : List PyData}
    (lk : K.lookup f = some ⟨oc, od, .func (PySem.W.fnOf name qual params body scope dV kV doc pm an cdv ct), osl⟩) (hcd : PySem.W.codeIn K cdv qual = true) (S : FnScope N ps scope)
    (hl : md.length + dd.length = ps.length) (hd : Vals dv dvs) (hdr : ∀ H P, RpL K H P dv dd)
    (hb : ∀ us : List Value, us.length = md.length → bindArgs (PySem.W.fnOf name qual params body scope dV kV doc pm an cdv ct) (argsOf us ks) = pure (ps.zip (us ++ dvs)))
    (Kn0 : Kn P w K mg base cm sg tb gs k) (hB : ∀ X : Cx, BodyAt X N scope → Cok X cm sg tb gs k → SndSs X cm (exs tb b) body) :
    FnG P w K mg base cm (k + 1) f ks ⟨md, fun ds => fnRun tb N.length (md ++ List.replicate dd.length false) b (ds ++ dd)⟩ :=
  fng_core (pre := fun ds => some (ds ++ dd)) lk hcd S (by simp; omega) (fun A outer s H us vs E Pa ds ds' l e0 rv aok hnew e A' Ex Q' h => by
    cases e
    obtain ⟨l1, l2⟩ := aok_len aok
    have lu := rv.length
    have lv := (hdr H Pa).length
    rw [hb us (by rw [← lu, l1])]
    exact wpAny_pure (h s H (vs ++ dv) (us ++ dvs) e0 Un.refl rfl (fun _ _ z => z) (rv.append hd) (by rw [List.length_append, l1, lv]; exact hl) ⟨Ext.refl H, aok_more aok (hdr H Pa)⟩)) Kn0 hB
/-- .. by names in another order, with defaults that stand in the written part: g puts the values in the parameters' order -/
theorem fng_bt {f : Addr} {name qual : Str} {params : Arguments} {body : List Stmt} {scope : Scope} {dV kV doc pm cdv ct oc : Value} {an od : Option Addr} {osl : Array (Option Value)} {N ps ks : List Str} {n : Nat} {b : Ss} {g : List Value → List Value} {gd : List PyData → List PyData}
    (lk : K.lookup f = some ⟨oc, od, .func (PySem.W.fnOf name qual params body scope dV kV doc pm an cdv ct), osl⟩) (hcd : PySem.W.codeIn K cdv qual = true) (S : FnScope N ps scope)
    (hrel : ∀ (vs : List V) (us : List Value) (ds : List PyData) (H : Hp) (Pa : Addr → Prop), us.length = n → Vals vs us → RpL K H Pa vs ds → ∃ vs', Vals vs' (g us) ∧ RpL K H Pa vs' (gd ds) ∧ vs'.length = ps.length)
    (hb : ∀ (s : Shared) (us : List Value), K.In s.heap → us.length = n → BindsTo s (PySem.W.fnOf name qual params body scope dV kV doc pm an cdv ct) (argsOf us ks) (ps.zip (g us)))
    (Kn0 : Kn P w K mg base cm sg tb gs k) (hB : ∀ X : Cx, BodyAt X N scope → Cok X cm sg tb gs k → SndSs X cm (exs tb b) body) :
    FnG P w K mg base cm (k + 1) f ks ⟨List.replicate n false, fun ds => fnRun tb N.length (List.replicate ps.length false) b (gd ds)⟩ :=
  fng_core (pre := fun ds => some (gd ds)) lk hcd S (by simp) (fun A outer s H us vs E Pa ds ds' l e0 rv aok hnew e A' Ex Q' h => by
    cases e
    have lu := rv.length
    obtain ⟨l1, l2⟩ := aok_len aok
    rw [List.length_replicate] at l1
    obtain ⟨el, rp⟩ := aok_flat aok
    obtain ⟨vs', v1, v2, v3⟩ := hrel vs us ds H Pa (by omega) rv rp
    have kin : K.In s.heap := e0.mod.kin.keeps fun b o q => (e0.bs b o q).1
    refine hb s us kin (by omega) _ _ _ _ (h s H vs' (g us) e0 Un.refl rfl (fun _ _ z => z) v1 v3 ⟨Ext.refl H, ?_⟩)
    rw [el, ← v3]
    exact aok_vals v2) Kn0 hB
/-- def f(a, .., *v) -/
theorem fng_star {f : Addr} {name qual : Str} {params : Arguments} {body : List Stmt} {scope : Scope} {dV kV doc pm cdv ct oc : Value} {an od : Option Addr} {osl : Array (Option Value)} {N ps : List Str} {pv : Str} {n m : Nat} {b : Ss}
    (lk : K.lookup f = some ⟨oc, od, .func (PySem.W.fnOf name qual params body scope dV kV doc pm an cdv ct), osl⟩) (hcd : PySem.W.codeIn K cdv qual = true) (S : FnScope N (ps ++ [pv]) scope) (hn : ps.length = n) (hm : m ≤ 100000)
    (hb : ∀ us rest : List Value, us.length = n → rest.length = m → bindArgs (PySem.W.fnOf name qual params body scope dV kV doc pm an cdv ct) ⟨us ++ rest, []⟩ = (newTuple rest >>= fun t => pure (ps.zip us ++ [(pv, t)])))
    (Kn0 : Kn P w K mg base cm sg tb gs k) (hB : ∀ X : Cx, BodyAt X N scope → Cok X cm sg tb gs k → SndSs X cm (exs tb b) body) :
    FnG P w K mg base cm (k + 1) f [] ⟨List.replicate (n + m) false, fun ds => fnRun tb N.length (List.replicate (n + 1) false) b (ds.take n ++ [.tuple (ds.drop n)])⟩ :=
  fng_core (pre := fun ds => some (ds.take n ++ [.tuple (ds.drop n)])) lk hcd S (by simp [hn]) (fun A outer s H us vs E Pa ds ds' l e0 rv aok hnew e A' Ex Q' h => by
    cases e
    have lu := rv.length
    obtain ⟨l1, l2⟩ := aok_len aok
    rw [List.length_replicate] at l1 l2
    obtain ⟨el, rp⟩ := aok_flat aok
    have hu : us = us.take n ++ us.drop n := (List.take_append_drop n us).symm
    have ea : argsOf us [] = ⟨us.take n ++ us.drop n, []⟩ := by rw [← hu]; simp [argsOf]
    rw [ea, hb _ _ (by rw [List.length_take]; omega) (by rw [List.length_drop]; omega)]
    have small : (us.drop n).length ≤ sizeLine := by
      rw [List.length_drop]
      have : (100000 : Nat) ≤ sizeLine := by decide
      omega
    have hn0 : H s.heap.objs.size = Option.none := e0.hok.fresh (Nat.le_refl _)
    refine wpAny_bind (wpAny_newTuple (wpAny_pure ?_) small)
    have rv' : Vals (vs.drop n) (us.drop n) := rv.drop n
    have new : ObjOk P w (upd H s.heap.objs.size (.tup (vs.drop n))) (s.heap.push ({ cls := .type "tuple", data := .seq (us.drop n).toArray } : Obj)) s.heap.objs.size (.tup (vs.drop n)) := ⟨by rw [rv'.length]; exact small, us.drop n, rv', ⟨_, Heap.get?_push_size _ rfl, rfl, _, rfl⟩⟩
    have un := StX.un_laid (fs := frs outer) (s := s) (o := ({ cls := .type "tuple", data := .seq (us.drop n).toArray } : Obj)) (u := .tup (vs.drop n)) hn0
    have z := h _ _ (vs.take n ++ [V.ref s.heap.objs.size]) (us.take n ++ [Value.ref s.heap.objs.size]) (StX.env0_laid e0 new) un rfl (fun e s' => StX.cxUp outer s H _ _ E e s' un (fun b o q => Heap.get?_push_of_some _ q) rfl) ((rv.take n).append (.cons rfl .nil))
      (by rw [List.length_append, List.length_append, List.length_take]; simp; omega) ⟨Ext.new hn0, ?_⟩
    · rw [List.zip_append (by rw [List.length_take]; omega)] at z
      exact z
    · rw [el]
      have r1 : RpL K (upd H s.heap.objs.size (.tup (vs.drop n))) Pa (vs.take n) (ds.take n) := (rp.take n).ext (Ext.new hn0)
      have r2 : RpL K (upd H s.heap.objs.size (.tup (vs.drop n))) Pa (vs.drop n) (ds.drop n) := (rp.drop n).ext (Ext.new hn0)
      have r3 := r1.append (RpL.one (.tup (.inl ⟨hnew _ hn0, .inl upd_same⟩) r2))
      have e3 := aok_vals r3
      rwa [show (vs.take n ++ [V.ref s.heap.objs.size]).length = n + 1 by rw [List.length_append, List.length_take]; simp; omega] at e3) Kn0 hB
end
end Di
namespace Di
open PySem PySem.Spec PyProof.Rows L2
/-! ## the law itself, called with the script -/
section
variable {P : Program} {w : World} {K : PySem.W.Frag} {mg : Str → Option Value} {cm : Nat → Value}
/-- the script as data -/
def scr (ns : List Int) : PyData := .list (ns.map .int)
abbrev LawEnd (s0 : Shared) (r : Result) (s' : Shared) : Prop := r = .ok (.ret (.bool true)) ∧ OldK s0.heap s'.heap ∧ s'.os = s0.os ∧ AllBare s'.gens
/-- where the script's object is the only one that is seen, if it is seen at all -/
structure Seen1 (P : Program) (w : World) (K : PySem.W.Frag) (H : Hp) (h : Heap) (a : Addr) (vs : List Value) (ns : List Int) : Prop where
  ok : HOk P w H h
  kind : ∀ b, H b = none ∨ ∃ o l, H b = some (.frz o l)
  only : ∀ b, H b ≠ none → b = a ∧ K.lookup a = none
  kl : LAt K H (fun _ => True) a (ns.map V.int)
theorem law_run1 {F : Fn} {k : Nat} {fa a : Addr} {mb : Str → Option Value} {s0 : Shared} {vs : List Value} {ns : List Int} {H : Hp} (kin : K.In s0.heap) (g1 : s0.heap.Ns mainGlobals mg) (g2 : s0.heap.Ns builtinsNs mb) (g3 : ∀ x : Str, x ≠ "__name__" → mb x = bootBuiltins x) (g4 : s0.heap.NoLimit) (g5 : s0.gens = #[])
    (ho : s0.heap.get? a = some { cls := .type "list", data := .seq vs.toArray }) (room : Room k callerA) (hG : ∀ base : Heap, K.In base → base.Ns mainGlobals mg → FnG P w K mg base cm k fa [] F) (hm : F.md = [false]) (hF : F.run [scr ns] = .ok false (.bool true) [])
    (S : Seen1 P w K H s0.heap a vs ns) : codeAny (model P w) callerA (.call (.ref fa) ⟨[.ref a], []⟩) (LawEnd s0) s0 := by
  -- a dict, a namespace, a part of the text is never the script
  have free : ∀ {b : Addr} {o : Obj}, s0.heap.get? b = some o → (∀ n, o.data ≠ .seq vs.toArray n) → H b = none := fun {b o} e nd => by
    by_cases q : H b = none
    · exact q
    · obtain ⟨rfl, _⟩ := S.only b q
      rw [ho] at e
      cases e
      exact absurd rfl (nd _)
  have dic : ∀ {b : Addr} {o : Obj} {es : Array DictEntry} {ep : Nat}, s0.heap.get? b = some o → o.data = .dict es ep → (hidT s0.heap H).get? b = some o := fun e d => hidT_get e (free e fun n z => by rw [d] at z; cases z)
  have ns' : ∀ {b : Addr} {m : Str → Option Value}, s0.heap.Ns b m → (hidT s0.heap H).Ns b m := fun ⟨o, es, ep, e, d, rest⟩ => ⟨o, es, ep, dic e d, d, rest⟩
  have kin' : K.In (hidT s0.heap H) := fun b o e => hidT_get (kin b o e) (by
    by_cases q : H b = none
    · exact q
    · obtain ⟨rfl, z⟩ := S.only b q
      rw [z] at e; cases e)
  have md : Mod K mg (hidT s0.heap H) := ⟨kin', ns' g1, ⟨mb, ns' g2, g3⟩, by obtain ⟨m, h1, h2⟩ := g4; exact ⟨m, ns' h1, h2⟩⟩
  have e0 : Env0 P w K mg (hidT s0.heap H) callerA [] s0 H := ⟨rfl, md, fun _ _ e => of_hidT e, Nat.le_of_eq (hidT_size _ _), trivial, fun x z => absurd (show x ∈ ([] : List Addr) from z) List.not_mem_nil, S.ok, .of_eq g5⟩
  have rp : Rp K H (fun _ => True) (.ref a) (scr ns) := .lst S.kl (RpL.of_ints ns)
  have call := hG _ kin' (ns' g1) callerA [] s0 H [.ref a] [.ref a] (fun v _ => v = .bl true) (fun _ _ _ => False) (fun _ => True) [scr ns] [] rfl room e0 (.cons rfl .nil) (by rw [hm]; exact .val rp .nil) (fun _ _ => trivial) (Nat.zero_le _)
    (by rw [hF]; intro v H' _ z; rw [if_neg (by decide)] at z; cases z.1; rfl)
  refine codeAny_mono call fun r s' z => ?_
  cases r with
  | error e => obtain ⟨_, _, _, _, _, _, _, _, _, _, _, _, no⟩ := z; exact no.elim
  | ok fl =>
    cases fl with
    | next => exact z.elim
    | brk => exact z.elim
    | cont => exact z.elim
    | ret u =>
      obtain ⟨v, H', os, bare, un, ok', ru, rfl⟩ := z
      cases (show u = Value.bool true from ru)
      refine ⟨rfl, OldK.of_keep fun b o e => ?_, os, bare⟩
      rcases S.kind b with q | ⟨o1, l1, q⟩
      · exact un.keep b o e q (fun z => absurd (show b ∈ ([] : List Addr) from z) List.not_mem_nil) (by simp)
      · have h1 := (S.ok b _ q).1
        have h2 := (ok' b _ (un.frzs b o1 _ q)).1
        rw [e] at h1
        cases h1
        exact h2
theorem law_run {F : Fn} {k : Nat} {fa a : Addr} {mb : Str → Option Value} {s0 : Shared} {vs : List Value} {ns : List Int} (kin : K.In s0.heap) (g1 : s0.heap.Ns mainGlobals mg) (g2 : s0.heap.Ns builtinsNs mb) (g3 : ∀ x : Str, x ≠ "__name__" → mb x = bootBuiltins x) (g4 : s0.heap.NoLimit) (g5 : s0.gens = #[])
    (ho : s0.heap.get? a = some { cls := .type "list", data := .seq vs.toArray }) (hi : IntsAre vs ns) (hl : ns.length ≤ sizeLine) (room : Room k callerA) (hG : ∀ base : Heap, K.In base → base.Ns mainGlobals mg → FnG P w K mg base cm k fa [] F) (hm : F.md = [false]) (hF : F.run [scr ns] = .ok false (.bool true) []) :
    codeAny (model P w) callerA (.call (.ref fa) ⟨[.ref a], []⟩) (LawEnd s0) s0 := by
  have rv := vals_ints hi
  by_cases hk : ∃ o, K.lookup a = some o
  · obtain ⟨o, hk⟩ := hk
    have e := kin a o hk
    rw [ho] at e
    cases e
    refine law_run1 (H := fun _ => none) kin g1 g2 g3 g4 g5 ho room hG hm hF ⟨fun b u z => absurd (show (none : Option HO) = some u from z) (fun q => by cases q), fun _ => .inl rfl, fun b z => absurd rfl z, .inr ⟨vs, _, hk, by rw [hi.length]; exact hl, rv⟩⟩
  · have hk : K.lookup a = none := by
      cases q : K.lookup a with
      | none => rfl
      | some o => exact absurd ⟨o, q⟩ hk
    let ob : Obj := { cls := .type "list", data := .seq vs.toArray }
    let H : Hp := fun b => if b = a then some (.frz ob (.lst (ns.map V.int))) else none
    have at_ : ∀ {b u}, H b = some u → b = a ∧ u = .frz ob (.lst (ns.map V.int)) := fun {b u} z => by
      by_cases q : b = a
      · refine ⟨q, ?_⟩
        have z : (if b = a then some (HO.frz ob (.lst (ns.map V.int))) else none) = some u := z
        rw [if_pos q] at z
        exact (Option.some.inj z).symm
      · have z : (if b = a then some (HO.frz ob (.lst (ns.map V.int))) else none) = some u := z
        rw [if_neg q] at z; cases z
    have ha : H a = some (.frz ob (.lst (ns.map V.int))) := if_pos rfl
    refine law_run1 (H := H) kin g1 g2 g3 g4 g5 ho room hG hm hF ⟨fun b u z => ?_, fun b => ?_, fun b z => ?_, .inl ⟨trivial, .inr ⟨ob, ha⟩⟩⟩
    · obtain ⟨rfl, rfl⟩ := at_ z
      exact ⟨ho, by rw [List.length_map]; exact hl, vs, _, rv, ho⟩
    · cases q : H b with
      | none => exact .inl rfl
      | some u => obtain ⟨_, rfl⟩ := at_ q; exact .inr ⟨_, _, rfl⟩
    · cases q : H b with
      | none => exact absurd q z
      | some u => exact ⟨(at_ q).1, hk⟩
/-- the goal that the head leaves -/
theorem walk_fn {l : PySem.W.OpenLaw} {n k : Nat} {q : Program} {loose : List Str} {XP : (Str → Option Value) → Heap → Prop} {YP : World → Heap → Prop} {d : DefRec} {KK : Params → PySem.W.Frag} {cm : Nat → Value} {F : Fn} (hn : l.most = some n) (hn2 : n ≤ sizeLine) (hdf : d.params.defaults = []) (room : Room k callerA)
    (hY : ∀ (w : World) (h : Heap), YP w h → (KK w.params).In h)
    (hG : ∀ (w : World) (mg : Str → Option Value) (fa : Addr) (h : Heap), (KK w.params).In h → h.Ns mainGlobals mg → mg d.name = some (.ref fa) → ∀ base : Heap, (KK w.params).In base → base.Ns mainGlobals mg → FnG l.prog w (KK w.params) mg base cm k fa [] F)
    (hm : F.md = [false]) (hF : ∀ ns : List Int, ns.length ≤ n → F.run [scr ns] = .ok false (.bool true) []) : PySem.W.WalkO q loose XP YP l.row.toRowW d [] (fun f vs => PySem.call f vs) := by
  refine Att.attach_call hn hdf fun w s0 s1 mg mb fa o pm cd doc a vs ns G Y _ _ _ hmg hobj hints hlen hgens => ?_
  have kin := hY w _ Y
  exact law_run kin G.T.g G.T.b G.T.builtins G.T.nolimit hgens hobj hints (Nat.le_trans hlen hn2) room (hG w mg fa _ kin G.T.g hmg) hm (hF ns hlen)
end
end Di
namespace Di
open PySem PySem.Spec PyProof.Rows L2
/-! ## does a text say what a term of the small language says -/
structure Cn where
  N : List Str
  sg : List Sig
  gs : List (Str × PyData)
def lkB (sc : Scope) (x : Str) (k : NameKind) : Bool := decide (sc.names.lookup x = some k)
def visB (sc : Scope) (x : Str) : Bool := lkB sc x .local || (lkB sc x .cell || lkB sc x .free)
def nmB (x : Str) : Bool := !(x == ("__debug__" : Str)) && !(x == ("__classdict__" : Str))
mutual
def eqP : PyData → PyData → Bool
  | .none, .none => true
  | .bool a, .bool b => decide (a = b)
  | .int a, .int b => decide (a = b)
  | .str a, .str b => decide (a = b)
  | .list a, .list b => eqPs a b
  | .tuple a, .tuple b => eqPs a b
  | _, _ => false
def eqPs : List PyData → List PyData → Bool
  | [], [] => true
  | a :: as, b :: bs => eqP a b && eqPs as bs
  | _, _ => false
end
mutual
theorem eqP_eq : ∀ {a b : PyData}, eqP a b = true → a = b
  | .none, b, h => by cases b <;> first | rfl | cases h
  | .bool x, b, h => by cases b <;> first | (cases h; done) | (simp only [eqP, decide_eq_true_eq] at h; rw [h])
  | .int x, b, h => by cases b <;> first | (cases h; done) | (simp only [eqP, decide_eq_true_eq] at h; rw [h])
  | .str x, b, h => by cases b <;> first | (cases h; done) | (simp only [eqP, decide_eq_true_eq] at h; rw [h])
  | .list x, b, h => by cases b <;> first | (cases h; done) | (simp only [eqP] at h; rw [eqPs_eq h])
  | .tuple x, b, h => by cases b <;> first | (cases h; done) | (simp only [eqP] at h; rw [eqPs_eq h])
  | .dict x, b, h => by cases b <;> cases h
theorem eqPs_eq : ∀ {a b : List PyData}, eqPs a b = true → a = b
  | [], b, h => by cases b <;> first | rfl | cases h
  | x :: xs, b, h => by
    cases b with
    | nil => cases h
    | cons y ys =>
      simp only [eqPs, Bool.and_eq_true] at h
      rw [eqP_eq h.1, eqPs_eq h.2]
end
def eqKv : List (PyData × PyData) → List (PyData × PyData) → Bool
  | [], [] => true
  | (a, b) :: x, (c, d) :: y => eqP a c && (eqP b d && eqKv x y)
  | _, _ => false
theorem eqKv_eq : ∀ {a b : List (PyData × PyData)}, eqKv a b = true → a = b
  | [], [], _ => rfl
  | [], _ :: _, h => by cases h
  | _ :: _, [], h => by cases h
  | (a, b) :: x, (c, d) :: y, h => by
    simp only [eqKv, Bool.and_eq_true] at h
    rw [eqP_eq h.1, eqP_eq h.2.1, eqKv_eq h.2.2]
def eqDk : PyData → List (PyData × PyData) → Bool
  | .dict a, b => eqKv a b
  | _, _ => false
def noSlice : Expr → Bool
  | .Slice _ _ _ _ => false
  | _ => true
def noSet : Expr → Bool
  | .Set _ _ _ => false
  | _ => true
def noComp : Expr → Bool
  | .ListComp _ _ _ _ => false
  | .SetComp _ _ _ _ => false
  | .DictComp _ _ _ _ _ => false
  | _ => true
def noTup : Expr → Bool
  | .Tuple _ _ _ => false
  | _ => true
def noIte : E → Bool
  | .ite _ _ _ => false
  | .and a b => noIte a && noIte b
  | .or a b => noIte a && noIte b
  | .not a => noIte a
  | _ => true
section
variable (cn : Cn)
def ckC : PyData → Expr → Bool
  | .none, .Constant .none _ _ => true
  | .bool a, .Constant (.bool b) _ _ => decide (a = b)
  | .int a, .Constant (.int b) _ _ => decide (a = b)
  | .str a, .Constant (.str b) _ _ => decide (a = b)
  | _, _ => false
def atN (sc : Scope) (i : Nat) (x : Str) : Bool := decide (cn.N[i]? = some x) && (visB sc x && nmB x)
def ckV (sc : Scope) (i : Nat) : Expr → Bool
  | .Name x _ => atN cn sc i x
  | _ => false
def ckG (sc : Scope) (x : Str) (d : PyData) : Expr → Bool
  | .Name y _ => decide (y = x) && (lkB sc x .globalImplicit && (nmB x && cn.gs.any fun q => decide (q.1 = x) && eqP q.2 d))
  | _ => false
def ckKdx (sc : Scope) (x : Str) (ks : List (PyData × PyData)) (fi : Expr → Bool) : Expr → Bool
  | .Subscript (.Name y _) ei _ => decide (y = x) && (lkB sc x .globalImplicit && (nmB x && (noSlice ei && (fi ei && cn.gs.any fun q => decide (q.1 = x) && eqDk q.2 ks))))
  | _ => false
def ckBop (o : Bop) (fa fb : Expr → Bool) : Expr → Bool
  | .BinOp ea op eb _ => decide (op = bopO o) && (fa ea && fb eb)
  | _ => false
def ckRep (fa fb : Expr → Bool) : Expr → Bool
  | .BinOp ea op eb _ => decide (op = .Mult) && (fa ea && fb eb)
  | _ => false
def ckNeg (fa : Expr → Bool) : Expr → Bool
  | .UnaryOp .USub ea _ => fa ea
  | _ => false
def ckNot (fa : Expr → Bool) : Expr → Bool
  | .UnaryOp .Not ea _ => fa ea
  | _ => false
def ckCmp (o : Cop) (fa fb : Expr → Bool) : Expr → Bool
  | .Compare ea [op] [eb] _ => decide (op = copO o) && (!behindInMarks (copO o) eb && (fa ea && fb eb))
  | _ => false
def ckChn (o1 o2 : Cop) (fa fb fc : Expr → Bool) : Expr → Bool
  | .Compare ea [op1, op2] [eb, ec] _ => decide (op1 = copO o1) && (decide (op2 = copO o2) && (!lastMarks [copO o1, copO o2] [eb, ec] && (fa ea && (fb eb && fc ec))))
  | _ => false
def ckIsn (yes : Bool) (fa : Expr → Bool) : Expr → Bool
  | .Compare ea [op] [.Constant .none _ _] _ => decide (op = if yes then .Is else .IsNot) && fa ea
  | _ => false
def ckAnd (fa fb : Expr → Bool) : Expr → Bool
  | .BoolOp .And [ea, eb] _ => fa ea && fb eb
  | .BoolOp .And (ea :: eb :: ec :: es) p => fa ea && fb (.BoolOp .And (eb :: ec :: es) p)
  | _ => false
def ckOr (fa fb : Expr → Bool) : Expr → Bool
  | .BoolOp .Or [ea, eb] _ => fa ea && fb eb
  | .BoolOp .Or (ea :: eb :: ec :: es) p => fa ea && fb (.BoolOp .Or (eb :: ec :: es) p)
  | _ => false
def ckIte (fc fa fb : Expr → Bool) : Expr → Bool
  | .IfExp ec ea eb _ => fc ec && (fa ea && fb eb)
  | _ => false
def ckTup (fs : List Expr → Bool) : Expr → Bool
  | .Tuple es _ _ => fs es
  | _ => false
def ckLst (fs : List Expr → Bool) : Expr → Bool
  | .List es _ => fs es
  | _ => false
def ckCall (sc : Scope) (k : Nat) (nb : Nat) (fs : List Expr → Bool) (fk : List Keyword → Bool) : Expr → Bool
  | .Call (.Name x _) es kws _ => match cn.sg[k]? with
    | some s => decide (s.nm = x) && (lkB sc x .globalImplicit && (nmB x && (es.all notStar && (kws.all (fun q => q.arg.isSome) && (decide (kws.filterMap (·.arg) = s.ks) && (decide (nb = s.ks.length) && (fs es && fk kws)))))))
    | none => false
  | _ => false
def ckBlt (sc : Scope) (f : Bl) (fs : List Expr → Bool) : Expr → Bool
  | .Call (.Name x _) (e :: es) [] _ => decide (x = bltN f) && (lkB sc x .globalImplicit && ((e :: es).all notStar && fs (e :: es)))
  | _ => false
def ckRng (sc : Scope) (tup : Bool) (fa fb : Expr → Bool) : Expr → Bool
  | .Call (.Name x _) [.Call (.Name y _) [ea, eb] [] _] [] _ => decide (x = (if tup then ("tuple" : Str) else ("list" : Str))) && (decide (y = "range") && (lkB sc x .globalImplicit && (lkB sc y .globalImplicit && (notStar ea && (notStar eb && (fa ea && fb eb))))))
  | _ => false
def ckIsi (sc : Scope) (t : Ty) (fa : Expr → Bool) : Expr → Bool
  | .Call (.Name x _) [ea, .Name y _] [] _ => decide (x = "isinstance") && (decide (y = tyN t) && (lkB sc x .globalImplicit && (lkB sc y .globalImplicit && (notStar ea && fa ea))))
  | _ => false
def ckIx (fa fb : Expr → Bool) : Expr → Bool
  | .Subscript ea eb _ => noSlice eb && (fa ea && fb eb)
  | _ => false
def ckRev (fa : Expr → Bool) : Expr → Bool
  | .Subscript ea (.Slice none none (some (.UnaryOp .USub (.Constant (.int 1) _ _) _)) _) _ => fa ea
  | _ => false
def ckSl (fa : Expr → Bool) (fl fh : Option Expr → Bool) : Expr → Bool
  | .Subscript ea (.Slice lo hi none _) _ => fa ea && (fl lo && fh hi)
  | _ => false
def ownNs : List Nat → List Expr → Option (List (Str × Nat))
  | [], [] => some []
  | i :: is, .Name x _ :: es => (ownNs is es).map ((x, i) :: ·)
  | _, _ => none
def ownT : Tg → Expr → Option (List (Str × Nat))
  | .n i, .Name x _ => some [(x, i)]
  | .t is, .Tuple es _ _ => ownNs is es
  | .p i j k, .Tuple [.Name x _, .Tuple es _ _] _ _ => (ownNs [j, k] es).map ((x, i) :: ·)
  | _, _ => none
def ckLc (sc : Scope) (t : Tg) (fi : Expr → Expr → Bool) (fc : Scope → List Expr → Bool) (fe : Scope → Expr → Bool) : Expr → Bool
  | .ListComp ee [⟨tg, iter, ifs, as⟩] scope _ => decide (as = 0) && match ownT t tg with
    | some own => noSet iter && (blkC cn.N sc scope own && (own.all (fun q => lkB scope q.1 .local || lkB scope q.1 .cell) && (fi tg iter && (fc scope ifs && fe scope ee))))
    | none => false
  | _ => false
def ckMt (sc : Scope) (i : Nat) (m : Str) (fa : Expr → Bool) : Expr → Bool
  | .Call (.Attribute (.Name x _) a p1) [ea] [] p2 => decide (a = m) && (atN cn sc i x && ((p1.endLine == p2.line) && (notStar ea && fa ea)))
  | _ => false
def isTup : Expr → Bool
  | .Tuple _ _ _ => true
  | _ => false
def ckMtE (m : Str) (fo fa : Expr → Bool) : Expr → Bool
  | .Call (.Attribute eo a p1) [ea] [] p2 => decide (a = m) && (baseOk eo && ((p1.endLine == p2.line) && (notStar ea && (fo eo && fa ea))))
  | _ => false
def ckMt2 (sc : Scope) (i : Nat) (m : Str) (fa fb : Expr → Bool) : Expr → Bool
  | .Call (.Attribute (.Name x _) a p1) [ea, eb] [] p2 => decide (a = m) && (atN cn sc i x && ((p1.endLine == p2.line) && (notStar ea && (notStar eb && (fa ea && fb eb)))))
  | _ => false
def ckEn (sc : Scope) (tg : Expr) (fa : Expr → Bool) : Expr → Bool
  | .Call (.Name x _) [ea] [] _ => decide (x = "enumerate") && (lkB sc x .globalImplicit && (notStar ea && (fa ea && isTup tg)))
  | _ => false
def ckMt0 (sc : Scope) (i : Nat) (m : Str) : Expr → Bool
  | .Call (.Attribute (.Name x _) a p1) [] [] p2 => decide (a = m) && (atN cn sc i x && (p1.endLine == p2.line))
  | _ => false
def ckR1 (sc : Scope) (fa : Expr → Bool) : Expr → Bool
  | .Call (.Name x _) [ea] [] _ => decide (x = "range") && (lkB sc x .globalImplicit && (notStar ea && fa ea))
  | _ => false
def ckZip (sc : Scope) (tg : Expr) (fa fb : Expr → Bool) : Expr → Bool
  | .Call (.Name x _) [ea, eb] [] _ => decide (x = "zip") && (lkB sc x .globalImplicit && (notStar ea && (notStar eb && (fa ea && (fb eb && isTup tg)))))
  | _ => false
def ckEz (sc : Scope) (tg : Expr) (fa fb : Expr → Bool) : Expr → Bool
  | .Call (.Name x _) [.Call (.Name y _) [ea, eb] [] _] [] _ => decide (x = "enumerate") && (lkB sc x .globalImplicit && (decide (y = "zip") && (lkB sc y .globalImplicit && (notStar ea && (notStar eb && (fa ea && (fb eb && isTup tg)))))))
  | _ => false
def ckTwo (sc : Scope) (f g : Str) (fa : Expr → Bool) : Expr → Bool
  | .Call (.Name x _) [.Call (.Name y _) [ea] [] _] [] _ => decide (x = f) && (lkB sc x .globalImplicit && (decide (y = g) && (lkB sc y .globalImplicit && (notStar ea && fa ea))))
  | _ => false
def ckSrd (sc : Scope) (fa fb : Expr → Bool) : Expr → Bool
  | .Call (.Name x _) [.BinOp (.Call (.Name y _) [ea] [] _) .Sub (.Call (.Name z _) [eb] [] _) _] [] _ => decide (x = "sorted") && (lkB sc x .globalImplicit && (decide (y = "set") && (lkB sc y .globalImplicit && (decide (z = "set") && (notStar ea && (notStar eb && (fa ea && fb eb)))))))
  | _ => false
def ckR2 (sc : Scope) (fa fb : Expr → Bool) : Expr → Bool
  | .Call (.Name x _) [ea, eb] [] _ => decide (x = "range") && (lkB sc x .globalImplicit && (notStar ea && (notStar eb && (fa ea && fb eb))))
  | _ => false
mutual
def chkE : E → Scope → Expr → Bool
  | .c d, _ => ckC d
  | .v i, sc => ckV cn sc i
  | .gc x d, sc => ckG cn sc x d
  | .kdx x ks i, sc => ckKdx cn sc x ks (chkE i sc)
  | .bop o a b, sc => ckBop o (chkE a sc) (chkE b sc)
  | .rep a b, sc => ckRep (chkE a sc) (chkE b sc)
  | .neg a, sc => ckNeg (chkE a sc)
  | .cmp o a b, sc => ckCmp o (chkE a sc) (chkE b sc)
  | .chn o1 o2 a b c, sc => ckChn o1 o2 (chkE a sc) (chkE b sc) (chkE c sc)
  | .isn y a, sc => ckIsn y (chkE a sc)
  | .and a b, sc => ckAnd (chkE a sc) (chkE b sc)
  | .or a b, sc => ckOr (chkE a sc) (chkE b sc)
  | .not a, sc => ckNot (chkE a sc)
  | .ite c a b, sc => ckIte (fun e => noIte c && chkE c sc e) (chkE a sc) (chkE b sc)
  | .tup as, sc => ckTup (chkEs as sc)
  | .lst as, sc => ckLst (chkEs as sc)
  | .dic0, _ => fun e => match e with
    | .Dict [] [] _ => true
    | _ => false
  | .call k as bs, sc => ckCall cn sc k bs.len (chkEs as sc) (chkKw bs sc)
  | .blt f as, sc => ckBlt sc f (chkEs as sc)
  | .rng t a b, sc => ckRng sc t (chkE a sc) (chkE b sc)
  | .isi t a, sc => ckIsi sc t (chkE a sc)
  | .ix a i, sc => ckIx (chkE a sc) (chkE i sc)
  | .rev a, sc => ckRev (chkE a sc)
  | .sl a lo hi, sc => ckSl (chkE a sc) (chkO lo sc) (chkO hi sc)
  | .lc t it co elt, sc => ckLc cn sc t (chkI it sc) (chkCo co) (chkE elt)
  | .app i a, sc => ckMt cn sc i "append" (chkE a sc)
  | .ext i a, sc => ckMt cn sc i "extend" (chkE a sc)
  | .pop i, sc => ckMt0 cn sc i "pop"
  | .srt a, sc => ckTwo sc "sorted" "set" (chkE a sc)
  | .lns a, sc => ckTwo sc "len" "set" (chkE a sc)
  | .srd a b, sc => ckSrd sc (chkE a sc) (chkE b sc)
  | .popi i a, sc => ckMt cn sc i "pop" (chkE a sc)
  | .jn a b, sc => ckMtE "join" (chkE a sc) (chkE b sc)
  | .sfi a b, sc => ckMtE "index" (chkE a sc) (chkE b sc)
  | .ins i a b, sc => ckMt2 cn sc i "insert" (chkE a sc) (chkE b sc)
  | .bad, _ => fun _ => true
def chkEs : Es → Scope → List Expr → Bool
  | .nil, _ => fun es => es.isEmpty
  | .cons a as, sc => fun es => match es with
    | [] => false
    | e :: es => notStar e && (chkE a sc e && chkEs as sc es)
  | .star a as, sc => fun es => match es with
    | .Starred e _ :: es => chkE a sc e && chkEs as sc es
    | _ => false
def chkKw : Es → Scope → List Keyword → Bool
  | .nil, _ => fun es => es.isEmpty
  | .cons a as, sc => fun es => match es with
    | [] => false
    | e :: es => chkE a sc e.value && chkKw as sc es
  | .star _ _, _ => fun _ => false
def chkO : Eo → Scope → Option Expr → Bool
  | .no, _ => fun o => o.isNone
  | .e a, sc => fun o => match o with
    | none => false
    | some e => chkE a sc e
def chkCo : Eo → Scope → List Expr → Bool
  | .no, _ => fun es => es.isEmpty
  | .e a, sc => fun es => match es with
    | [e] => noIte a && chkE a sc e
    | _ => false
def chkI : It → Scope → Expr → Expr → Bool
  | .e a, sc => fun _ => chkE a sc
  | .r1 a, sc => fun _ => ckR1 sc (chkE a sc)
  | .r2 a b, sc => fun _ => ckR2 sc (chkE a sc) (chkE b sc)
  | .zip a b, sc => fun tg => ckZip sc tg (chkE a sc) (chkE b sc)
  | .ez a b, sc => fun tg => ckEz sc tg (chkE a sc) (chkE b sc)
  | .rvr a, sc => fun _ => ckTwo sc "reversed" "range" (chkE a sc)
  | .en a, sc => fun tg => ckEn sc tg (chkE a sc)
end
end
end Di
namespace Di
open PySem PySem.Spec PyProof.Rows L2
structure ScR (sc sc' : Scope) : Prop where
  loc : ∀ x, sc.names.lookup x = some .local → sc'.names.lookup x = some .local
  cf : ∀ x, (sc.names.lookup x = some .cell ∨ sc.names.lookup x = some .free) → (sc'.names.lookup x = some .cell ∨ sc'.names.lookup x = some .free)
  gl : ∀ x, sc.names.lookup x = some .globalImplicit → sc'.names.lookup x = some .globalImplicit
  cl : ∀ x, sc.names.lookup x = some .cell → sc'.names.lookup x = some .cell
theorem ScR.refl (sc : Scope) : ScR sc sc := ⟨fun _ h => h, fun _ h => h, fun _ h => h, fun _ h => h⟩
theorem lk_map {g : Str → NameKind → NameKind} {x : Str} {k : NameKind} : ∀ {l : List (Str × NameKind)}, l.lookup x = some k → (l.map fun y => (y.1, g y.1 y.2)).lookup x = some (g x k)
  | [], h => by simp at h
  | (n, j) :: l, h => by
    rw [List.lookup_cons] at h
    rw [List.map_cons, List.lookup_cons]
    cases e : x == n with
    | true => rw [e] at h; cases h; have := eq_of_beq e; subst this; rfl
    | false => rw [e] at h; exact lk_map h
theorem scR_relabel (scope : Scope) (env : PySem.Env) : ScR scope (relabel scope env) := by
  let g : Str → NameKind → NameKind := fun n k => if (k == NameKind.free && env.scope.kind == ScopeKind.function && env.kindOf n == some NameKind.cell) = true then .cell else k
  have e : (relabel scope env).names = scope.names.map fun y => (y.1, g y.1 y.2) := by
    show (scope.names.map fun (n, k) => if (k == NameKind.free && env.scope.kind == ScopeKind.function && env.kindOf n == some NameKind.cell) = true then (n, NameKind.cell) else (n, k)) = _
    refine List.map_congr_left fun y _ => ?_
    obtain ⟨n, k⟩ := y
    show (if _ then _ else _) = (n, if _ then _ else _)
    split <;> rfl
  have key : ∀ x k, scope.names.lookup x = some k → (relabel scope env).names.lookup x = some (g x k) := fun x k h => by rw [e]; exact lk_map h
  refine ⟨fun x h => ?_, fun x h => ?_, fun x h => ?_, fun x h => by rw [key x _ h]; simp only [g]; rw [if_neg (by simp)]⟩
  · rw [key x _ h]; simp only [g]; rw [if_neg (by simp)]
  · rcases h with h | h
    · rw [key x _ h]; simp only [g]; rw [if_neg (by simp)]; exact .inl rfl
    · rw [key x _ h]; simp only [g]; split
      · exact .inl rfl
      · exact .inr rfl
  · rw [key x _ h]; simp only [g]; rw [if_neg (by simp)]
theorem lkB_eq {sc : Scope} {x : Str} {k : NameKind} (h : lkB sc x k = true) : sc.names.lookup x = some k := of_decide_eq_true h
theorem vis_of {X : Cx} {sc : Scope} {x : Str} (R : ScR sc X.env.scope) (h : visB sc x = true) : Vis X.env.scope x := by
  unfold visB at h
  simp only [Bool.or_eq_true] at h
  rcases h with h | h | h
  · exact .inl (R.loc x (lkB_eq h))
  · exact .inr (R.cf x (.inl (lkB_eq h)))
  · exact .inr (R.cf x (.inr (lkB_eq h)))
theorem gl_of {X : Cx} {sc : Scope} {x : Str} (R : ScR sc X.env.scope) (h : lkB sc x .globalImplicit = true) : Gl X x := R.gl x (lkB_eq h)
theorem nm_of {x : Str} (h : nmB x = true) : (x == ("__debug__" : Str)) = false ∧ (x == ("__classdict__" : Str)) = false := by
  unfold nmB at h
  simp only [Bool.and_eq_true, Bool.not_eq_true'] at h
  exact h
theorem plain_ix {e : Expr} (h : noSlice e = true) : ∀ o i, subscripted e false o i = operate [o, i] (getItem o i) := by
  intro o i
  cases e <;> first | rfl | cases h
theorem plain_set {e : Expr} {env : PySem.Env} (h : noSet e = true) : ∀ x, foldedSetIterable e env x = pure x := by
  intro x
  cases e <;> first | rfl | cases h
theorem not_t {b : Bool} (h : (!b) = true) : b = false := by cases b <;> first | rfl | cases h
section
variable {cn : Cn} {X : Cx} {cm : Nat → Value} {tb : List Fn} {k : Nat}
theorem atN_of {sc : Scope} {i : Nat} {x : Str} (hN : X.N = cn.N) (R : ScR sc X.env.scope) (h : atN cn sc i x = true) : X.N[i]? = some x ∧ Vis X.env.scope x ∧ (x == ("__debug__" : Str)) = false ∧ (x == ("__classdict__" : Str)) = false := by
  unfold atN at h
  simp only [Bool.and_eq_true, decide_eq_true_eq] at h
  exact ⟨by rw [hN]; exact h.1, vis_of R h.2.1, nm_of h.2.2⟩
theorem cok_blk {sg : List Sig} {gs : List (Str × PyData)} (C : Cok X cm sg tb gs k) (scope : Scope) (s : Shared) (H : Hp) (D : Addr) (cl : List (Str × Addr)) (fp : List Addr) : Cok (Blk X scope s H D cl fp) cm sg tb gs k := ⟨C.nd, C.hc, C.gd, C.room, C.bl, C.fn, C.gc⟩
theorem pgs_nms {sc : Scope} (nd : X.N.Nodup) : ∀ {is : List Nat} {es : List Expr} {own : List (Str × Nat)}, ownNs is es = some own → (∀ q ∈ own, X.N[q.2]? = some q.1 ∧ Loc X.env.scope q.1 ∧ (X.fn q.1 = true ∨ X.env.scope.names.lookup q.1 = some .local)) →
    PGs X es (gNms is) ∧ (assignEach es X.env).length = is.length ∧ (assignEach es X.env).findIdx? (·.1) = none ∧ own.map (·.2) = is
  | [], [], own, e, _ => by cases e; exact ⟨pgs_nil, rfl, rfl, rfl⟩
  | i :: is, .Name x p :: es, own, e, h => by
    simp only [ownNs, Option.map_eq_some_iff] at e
    obtain ⟨o, e1, e2⟩ := e
    subst e2
    obtain ⟨h1, h2, h3, h4⟩ := pgs_nms (sc := sc) nd e1 fun q hq => h q (List.mem_cons_of_mem _ hq)
    obtain ⟨g1, g2, g3⟩ := h (x, i) List.mem_cons_self
    refine ⟨pgs_cons (pg_name nd g1 g2 g3) h1 rfl, ?_, ?_, by simp [h4]⟩
    · show (assignEach es X.env).length + 1 = is.length + 1
      rw [h2]
    · show List.findIdx? _ ((false, _) :: assignEach es X.env) = none
      rw [List.findIdx?_cons]
      simp [h3]
  | [], _ :: _, _, e, _ => by cases e
  | _ :: _, [], _, e, _ => by cases e
  | i :: is, e0 :: es, own, e, h => by
    cases e0 <;> first | (cases e; done) | skip
    rename_i x p
    simp only [ownNs, Option.map_eq_some_iff] at e
    obtain ⟨o, e1, e2⟩ := e
    subst e2
    obtain ⟨h1, h2, h3, h4⟩ := pgs_nms (sc := sc) nd e1 fun q hq => h q (List.mem_cons_of_mem _ hq)
    obtain ⟨g1, g2, g3⟩ := h (x, i) List.mem_cons_self
    refine ⟨pgs_cons (pg_name nd g1 g2 g3) h1 rfl, ?_, ?_, by simp [h4]⟩
    · show (assignEach es X.env).length + 1 = is.length + 1
      rw [h2]
    · show List.findIdx? _ ((false, _) :: assignEach es X.env) = none
      rw [List.findIdx?_cons]
      simp [h3]
theorem pg_tgt {t : Tg} {tg : Expr} {own : List (Str × Nat)} (nd : X.N.Nodup) (hc : X.calm = true) (e : ownT t tg = some own) (h : ∀ q ∈ own, X.N[q.2]? = some q.1 ∧ Loc X.env.scope q.1 ∧ (X.fn q.1 = true ∨ X.env.scope.names.lookup q.1 = some .local)) : PG X tg (tgG X.K t) ∧ own.map (·.2) = t.slots := by
  cases t with
  | n i =>
    cases tg <;> first | (cases e; done) | skip
    cases e
    obtain ⟨g1, g2, g3⟩ := h _ List.mem_cons_self
    exact ⟨pg_name nd g1 g2 g3, rfl⟩
  | t is =>
    cases tg <;> first | (cases e; done) | skip
    obtain ⟨h1, h2, h3, h4⟩ := pgs_nms (sc := X.env.scope) nd e h
    exact ⟨pg_seq hc h1 h2 h3, h4⟩
  | p i j k =>
    unfold ownT at e
    split at e
    · rename_i h0; cases h0
    · rename_i h0; cases h0
    · rename_i i' j' k' x px es k1 p1 k2 p2 h0
      cases h0
      rw [Option.map_eq_some_iff] at e
      obtain ⟨o, e1, rfl⟩ := e
      obtain ⟨h1, h2, h3, h4⟩ := pgs_nms (sc := X.env.scope) nd e1 fun q hq => h q (List.mem_cons_of_mem _ hq)
      obtain ⟨g1, g2, g3⟩ := h (x, i) List.mem_cons_self
      refine ⟨pg_tup hc (pgs_cons (pg_name nd g1 g2 g3) (pgs_cons (pg_tup hc h1 h2 h3) pgs_nil rfl) rfl) rfl rfl, ?_⟩
      rw [List.map_cons, h4]
      rfl
    · cases e
end
end Di
namespace Di
open PySem PySem.Spec PyProof.Rows L2
structure St1 (cn : Cn) (X : Cx) (cm : Nat → Value) (tb : List Fn) (k : Nat) (sc : Scope) : Prop where
  C : Cok X cm cn.sg tb cn.gs k
  hN : X.N = cn.N
  R : ScR sc X.env.scope
section
variable {cn : Cn} {X : Cx} {cm : Nat → Value} {tb : List Fn} {k : Nat} {sc : Scope}
theorem St1.blk (S : St1 cn X cm tb k sc) (scope : Scope) (s : Shared) (H : Hp) (D : Addr) (cl : List (Str × Addr)) (fp : List Addr) : St1 cn (Blk X scope s H D cl fp) cm tb k scope := ⟨cok_blk S.C scope s H D cl fp, S.hN, scR_relabel scope X.env⟩
theorem pl {ie : E} {e : Expr} (h : Snd X cm tb ie e) (he : ∀ whole, isTrue e X.env whole = (do let v ← whole; standAt e.pos; holding [v] (truthy v))) : Snd X cm tb ie e ∧ (noIte ie = true → SndT X cm tb ie e) := ⟨h, fun _ => sndT_plain h he⟩
theorem sndW_of {ie : E} {o : BoolOp} {es : List Expr} {p : Pos} (h : SndT X cm tb ie (.BoolOp o es p)) : SndW X cm tb ie (.BoolOp o es p) := fun c r σ H Q hK hcm tk E q whole pins s I => h c r σ H Q hK hcm tk E q pins s I
theorem ckC_ok {d : PyData} {ee : Expr} (h : ckC d ee = true) : Snd X cm tb (.c d) ee ∧ (noIte (.c d) = true → SndT X cm tb (.c d) ee) := by
  unfold ckC at h
  split at h
  · exact pl (snd_c pe_non fun _ _ _ => .non) fun _ => rfl
  · rw [of_decide_eq_true h]; exact pl (snd_c pe_bl fun _ _ _ => .bl _) fun _ => rfl
  · rw [of_decide_eq_true h]; exact pl (snd_c pe_int fun _ _ _ => .int _) fun _ => rfl
  · rw [of_decide_eq_true h]; exact pl (snd_c pe_str fun _ _ _ => .str _) fun _ => rfl
  · cases h
theorem ckV_ok (S : St1 cn X cm tb k sc) {i : Nat} {ee : Expr} (h : ckV cn sc i ee = true) : Snd X cm tb (.v i) ee ∧ (noIte (.v i) = true → SndT X cm tb (.v i) ee) := by
  unfold ckV at h
  split at h
  · obtain ⟨h1, h2, h3, h4⟩ := atN_of S.hN S.R h
    exact pl (snd_v h1 h2 h3 h4) fun _ => rfl
  · cases h
theorem eqP_nd {d : PyData} (h : eqP d d = true) : notDict d = true := by cases d <;> first | rfl | (unfold eqP at h; cases h)
theorem ckG_ok (S : St1 cn X cm tb k sc) {x : Str} {d : PyData} {ee : Expr} (h : ckG cn sc x d ee = true) : Snd X cm tb (.gc x d) ee ∧ (noIte (.gc x d) = true → SndT X cm tb (.gc x d) ee) := by
  unfold ckG at h
  split at h
  · simp only [Bool.and_eq_true, decide_eq_true_eq, List.any_eq_true] at h
    obtain ⟨rfl, h1, h2, ⟨y, e⟩, hq, rfl, h4⟩ := h
    have h5 := h4
    have h4 : e = d := eqP_eq h4
    subst h4
    exact pl (snd_gc S.C hq (eqP_nd h5) (gl_of S.R h1) (nm_of h2).1) fun _ => rfl
  · cases h
theorem ckLc_inv (S : St1 cn X cm tb k sc) {t : Tg} {fi : Expr → Expr → Bool} {fc : Scope → List Expr → Bool} {fe : Scope → Expr → Bool} {ee : Expr} (h : ckLc cn sc t fi fc fe ee = true) :
    ∃ tg iter ifs scope eelt p own, ee = .ListComp eelt [⟨tg, iter, ifs, 0⟩] scope p ∧ fi tg iter = true ∧ fc scope ifs = true ∧ fe scope eelt = true ∧ BlkOk X.N X.env.scope scope own ∧ own.map (·.2) = t.slots ∧
      (∀ s H C cl fp, PG (Blk X scope s H C cl fp) tg (tgG X.K t)) ∧ ∀ x, foldedSetIterable iter X.env x = pure x := by
  unfold ckLc at h
  split at h
  · rename_i eelt tg iter ifs as scope p
    simp only [Bool.and_eq_true, decide_eq_true_eq] at h
    obtain ⟨rfl, h⟩ := h
    split at h
    · rename_i own eo
      simp only [Bool.and_eq_true, List.all_eq_true] at h
      obtain ⟨h1, h2, h3, h4, h5, h6⟩ := h
      have bk := blkOk_by h2
      have bk' : BlkOk X.N X.env.scope scope own := ⟨bk.kind, bk.uniq, by rw [S.hN]; exact bk.ix, fun y hy e => S.R.cf _ (bk.free y hy e), by rw [S.hN]; exact bk.own⟩
      have at_ : ∀ s H C cl fp, ∀ q ∈ own, (Blk X scope s H C cl fp).N[q.2]? = some q.1 ∧ Loc (Blk X scope s H C cl fp).env.scope q.1 ∧ ((Blk X scope s H C cl fp).fn q.1 = true ∨ (Blk X scope s H C cl fp).env.scope.names.lookup q.1 = some .local) := fun s H C cl fp q hq => by
        have h9 := h3 q hq
        rw [Bool.or_eq_true] at h9
        rcases h9 with h9 | h9
        · have z := (scR_relabel scope X.env).loc _ (lkB_eq h9)
          exact ⟨bk'.ix q hq, .inl z, .inr z⟩
        · have z := (scR_relabel scope X.env).cl _ (lkB_eq h9)
          refine ⟨bk'.ix q hq, .inr z, .inl ?_⟩
          show (scope.names.lookup q.1 == some .cell) = true
          rw [lkB_eq h9]
          rfl
      have go : ∀ {is : List Nat} {es : List Expr} {own : List (Str × Nat)}, ownNs is es = some own → own.map (·.2) = is := by
        intro is
        induction is with
        | nil => intro es own e; cases es <;> cases e; rfl
        | cons i is ih =>
          intro es own e
          cases es with
          | nil => cases e
          | cons e0 es =>
            cases e0 <;> first | (cases e; done) | skip
            simp only [ownNs, Option.map_eq_some_iff] at e
            obtain ⟨o, e1, e2⟩ := e
            subst e2
            simp [ih e1]
      have ho : own.map (·.2) = t.slots := by
        cases t with
        | n i => cases tg <;> first | (cases eo; done) | (cases eo; rfl)
        | t is =>
          cases tg <;> first | (cases eo; done) | skip
          exact go eo
        | p i j k =>
          unfold ownT at eo
          split at eo
          · rename_i h0; cases h0
          · rename_i h0; cases h0
          · rename_i i' j' k' x px es k1 p1 k2 p2 h0
            cases h0
            rw [Option.map_eq_some_iff] at eo
            obtain ⟨o, e1, rfl⟩ := eo
            rw [List.map_cons, go e1]
            rfl
          · cases eo
      exact ⟨tg, iter, ifs, scope, eelt, p, own, rfl, h4, h5, h6, bk', ho, fun s H C cl fp => (pg_tgt (X := Blk X scope s H C cl fp) S.C.nd S.C.hc eo (at_ s H C cl fp)).1, plain_set h1⟩
    · cases h
  · cases h
theorem es_nil {es : List Expr} (h : es.isEmpty = true) : es = [] := by cases es <;> first | rfl | cases h
mutual
theorem chkE_ok : ∀ (e : E) {X : Cx} {sc : Scope} {ee : Expr}, St1 cn X cm tb k sc → chkE cn e sc ee = true → Snd X cm tb e ee ∧ (noIte e = true → SndT X cm tb e ee)
  | .c d, X, sc, ee, S, h => ckC_ok h
  | .v i, X, sc, ee, S, h => ckV_ok S h
  | .gc x d, X, sc, ee, S, h => ckG_ok S h
  | .kdx x ks i, X, sc, ee, S, h => by
    unfold chkE ckKdx at h
    split at h
    · simp only [Bool.and_eq_true, decide_eq_true_eq, List.any_eq_true] at h
      obtain ⟨rfl, h1, h2, h3, h4, ⟨y, e⟩, hq, rfl, h6⟩ := h
      cases e <;> first | (cases h6; done) | skip
      have h6 := eqKv_eq h6
      subst h6
      exact pl (snd_kdx S.C hq (gl_of S.R h1) (nm_of h2).1 (chkE_ok i S h4).1 (plain_ix h3)) fun _ => rfl
    · cases h
  | .bop o a b, X, sc, ee, S, h => by
    unfold chkE ckBop at h
    split at h
    · simp only [Bool.and_eq_true, decide_eq_true_eq] at h
      obtain ⟨rfl, ha, hb⟩ := h
      exact pl (snd_bop (chkE_ok a S ha).1 (chkE_ok b S hb).1) fun _ => rfl
    · cases h
  | .rep a b, X, sc, ee, S, h => by
    unfold chkE ckRep at h
    split at h
    · simp only [Bool.and_eq_true, decide_eq_true_eq] at h
      obtain ⟨rfl, ha, hb⟩ := h
      exact pl (snd_rep (chkE_ok a S ha).1 (chkE_ok b S hb).1) fun _ => rfl
    · cases h
  | .neg a, X, sc, ee, S, h => by
    unfold chkE ckNeg at h
    split at h
    · exact pl (snd_neg (chkE_ok a S h).1) fun _ => rfl
    · cases h
  | .cmp o a b, X, sc, ee, S, h => by
    unfold chkE ckCmp at h
    split at h
    · simp only [Bool.and_eq_true, decide_eq_true_eq] at h
      obtain ⟨rfl, hm, ha, hb⟩ := h
      have A := (chkE_ok a S ha).1
      have B := (chkE_ok b S hb).1
      exact ⟨snd_cmp S.C A B (not_t hm), fun _ => sndT_cmp S.C A B (not_t hm)⟩
    · cases h
  | .chn o1 o2 a b d, X, sc, ee, S, h => by
    unfold chkE ckChn at h
    split at h
    · simp only [Bool.and_eq_true, decide_eq_true_eq] at h
      obtain ⟨rfl, rfl, hm, ha, hb, hd⟩ := h
      have A := (chkE_ok a S ha).1
      have B := (chkE_ok b S hb).1
      have D := (chkE_ok d S hd).1
      exact ⟨snd_chn S.C A B D (not_t hm), fun _ => sndT_chn S.C A B D (not_t hm)⟩
    · cases h
  | .isn y a, X, sc, ee, S, h => by
    unfold chkE ckIsn at h
    split at h
    · simp only [Bool.and_eq_true, decide_eq_true_eq] at h
      obtain ⟨rfl, ha⟩ := h
      have A := (chkE_ok a S ha).1
      exact ⟨snd_isn A, fun _ => sndT_isn A⟩
    · cases h
  | .and a b, X, sc, ee, S, h => by
    unfold chkE ckAnd at h
    split at h
    · simp only [Bool.and_eq_true] at h
      have A := chkE_ok a S h.1
      have B := chkE_ok b S h.2
      refine ⟨snd_and A.1 (snd_one B.1), fun n => ?_⟩
      unfold noIte at n
      rw [Bool.and_eq_true] at n
      exact (sndW_and (A.2 n.1) (sndW_and1 (B.2 n.2))).t
    · simp only [Bool.and_eq_true] at h
      have A := chkE_ok a S h.1
      have B := chkE_ok b S h.2
      refine ⟨snd_and A.1 B.1, fun n => ?_⟩
      unfold noIte at n
      rw [Bool.and_eq_true] at n
      exact (sndW_and (A.2 n.1) (sndW_of (B.2 n.2))).t
    · cases h
  | .or a b, X, sc, ee, S, h => by
    unfold chkE ckOr at h
    split at h
    · simp only [Bool.and_eq_true] at h
      have A := chkE_ok a S h.1
      have B := chkE_ok b S h.2
      refine ⟨snd_or A.1 (snd_one B.1), fun n => ?_⟩
      unfold noIte at n
      rw [Bool.and_eq_true] at n
      exact (sndW_or (A.2 n.1) (sndW_or1 (B.2 n.2))).t
    · simp only [Bool.and_eq_true] at h
      have A := chkE_ok a S h.1
      have B := chkE_ok b S h.2
      refine ⟨snd_or A.1 B.1, fun n => ?_⟩
      unfold noIte at n
      rw [Bool.and_eq_true] at n
      exact (sndW_or (A.2 n.1) (sndW_of (B.2 n.2))).t
    · cases h
  | .not a, X, sc, ee, S, h => by
    unfold chkE ckNot at h
    split at h
    · have A := chkE_ok a S h
      exact ⟨snd_not A.1, fun n => sndT_not (A.2 n)⟩
    · cases h
  | .ite d a b, X, sc, ee, S, h => by
    unfold chkE ckIte at h
    split at h
    · simp only [Bool.and_eq_true] at h
      obtain ⟨⟨hn, hd⟩, ha, hb⟩ := h
      exact ⟨snd_ite ((chkE_ok d S hd).2 hn) (chkE_ok a S ha).1 (chkE_ok b S hb).1, fun n => by cases n⟩
    · cases h
  | .tup as, X, sc, ee, S, h => by
    unfold chkE ckTup at h
    split at h
    · exact pl (snd_tup (chkEs_ok as S h).1) fun _ => rfl
    · cases h
  | .lst as, X, sc, ee, S, h => by
    unfold chkE ckLst at h
    split at h
    · exact pl (snd_lst (chkEs_ok as S h).1) fun _ => rfl
    · cases h
  | .dic0, X, sc, ee, S, h => by
    unfold chkE at h
    split at h
    · exact pl snd_dic0 fun _ => rfl
    · cases h
  | .call j as bs, X, sc, ee, S, h => by
    unfold chkE ckCall at h
    split at h
    · split at h
      · rename_i s hs
        simp only [Bool.and_eq_true, decide_eq_true_eq] at h
        obtain ⟨rfl, h1, h2, h3, h4, h5, h6, h7, h8⟩ := h
        refine pl (snd_call S.C hs (chkEs_ok as S h7).2.2 (chkKw_ok bs S h8) (gl_of S.R h1) (nm_of h2).1 h3 h4 h5 h6 fun e => ?_) fun _ => rfl
        subst e
        cases as with
        | nil => rfl
        | cons a as => unfold chkEs at h7; cases h7
        | star a as => unfold chkEs at h7; cases h7
      · cases h
    · cases h
  | .blt f as, X, sc, ee, S, h => by
    unfold chkE ckBlt at h
    split at h
    · simp only [Bool.and_eq_true, decide_eq_true_eq] at h
      obtain ⟨rfl, h1, h2, h3⟩ := h
      exact pl (snd_blt S.C (chkEs_ok as S h3).2.1 (gl_of S.R h1) h2) fun _ => rfl
    · cases h
  | .rng t a b, X, sc, ee, S, h => by
    unfold chkE ckRng at h
    split at h
    · simp only [Bool.and_eq_true, decide_eq_true_eq] at h
      obtain ⟨rfl, rfl, h1, h2, h3, h4, h5, h6⟩ := h
      exact pl (snd_rng S.C (chkE_ok a S h5).1 (chkE_ok b S h6).1 (gl_of S.R h1) (gl_of S.R h2) h3 h4) fun _ => rfl
    · cases h
  | .isi t a, X, sc, ee, S, h => by
    unfold chkE ckIsi at h
    split at h
    · simp only [Bool.and_eq_true, decide_eq_true_eq] at h
      obtain ⟨rfl, rfl, h1, h2, h3, h4⟩ := h
      exact pl (snd_isi S.C (chkE_ok a S h4).1 (gl_of S.R h1) (gl_of S.R h2) h3) fun _ => rfl
    · cases h
  | .ix a b, X, sc, ee, S, h => by
    unfold chkE ckIx at h
    split at h
    · simp only [Bool.and_eq_true] at h
      obtain ⟨h1, h2, h3⟩ := h
      exact pl (snd_ix (chkE_ok a S h2).1 (chkE_ok b S h3).1 (plain_ix h1)) fun _ => rfl
    · cases h
  | .sl a lo hi, X, sc, ee, S, h => by
    unfold chkE ckSl at h
    split at h
    · simp only [Bool.and_eq_true] at h
      obtain ⟨h1, h2, h3⟩ := h
      exact pl (snd_sl (chkE_ok a S h1).1 (chkO_ok lo S h2) (chkO_ok hi S h3)) fun _ => rfl
    · cases h
  | .rev a, X, sc, ee, S, h => by
    unfold chkE ckRev at h
    split at h
    · exact pl (snd_rev (chkE_ok a S h).1) fun _ => rfl
    · cases h
  | .lc t it co elt, X, sc, ee, S, h => by
    unfold chkE at h
    obtain ⟨tg, iter, ifs, scope, eelt, p, own, rfl, h1, h2, h3, h4, h5, h6, h7⟩ := ckLc_inv S h
    exact pl (snd_lc S.C (chkI_ok it S h1) h4 h5 h6 (fun s H C cl fp => chkCo_ok co (S.blk scope s H C cl fp) h2) (fun s H C cl fp => (chkE_ok elt (S.blk scope s H C cl fp) h3).1) h7) fun _ => rfl
  | .app i a, X, sc, ee, S, h => by
    unfold chkE ckMt at h
    split at h
    · simp only [Bool.and_eq_true, decide_eq_true_eq] at h
      obtain ⟨rfl, h1, h2, h3, h4⟩ := h
      obtain ⟨g1, g2, g3, g4⟩ := atN_of S.hN S.R h1
      exact pl (snd_app (pe_var g1 g2 g3 g4) (chkE_ok a S h4).1 h2 h3) fun _ => rfl
    · cases h
  | .ext i a, X, sc, ee, S, h => by
    unfold chkE ckMt at h
    split at h
    · simp only [Bool.and_eq_true, decide_eq_true_eq] at h
      obtain ⟨rfl, h1, h2, h3, h4⟩ := h
      obtain ⟨g1, g2, g3, g4⟩ := atN_of S.hN S.R h1
      exact pl (snd_ext (pe_var g1 g2 g3 g4) (chkE_ok a S h4).1 h2 h3) fun _ => rfl
    · cases h
  | .pop i, X, sc, ee, S, h => by
    unfold chkE ckMt0 at h
    split at h
    · simp only [Bool.and_eq_true, decide_eq_true_eq] at h
      obtain ⟨rfl, h1, h2⟩ := h
      obtain ⟨g1, g2, g3, g4⟩ := atN_of S.hN S.R h1
      exact pl (snd_pop (pe_var g1 g2 g3 g4) h2) fun _ => rfl
    · cases h
  | .srt a, X, sc, ee, S, h => by
    unfold chkE ckTwo at h
    split at h
    · simp only [Bool.and_eq_true, decide_eq_true_eq] at h
      obtain ⟨rfl, h1, rfl, h2, h3, h4⟩ := h
      exact pl (snd_srt S.C (chkE_ok a S h4).1 (gl_of S.R h1) (gl_of S.R h2) h3) fun _ => rfl
    · cases h
  | .lns a, X, sc, ee, S, h => by
    unfold chkE ckTwo at h
    split at h
    · simp only [Bool.and_eq_true, decide_eq_true_eq] at h
      obtain ⟨rfl, h1, rfl, h2, h3, h4⟩ := h
      exact pl (snd_lns S.C (chkE_ok a S h4).1 (gl_of S.R h1) (gl_of S.R h2) h3) fun _ => rfl
    · cases h
  | .srd a b, X, sc, ee, S, h => by
    unfold chkE ckSrd at h
    split at h
    · simp only [Bool.and_eq_true, decide_eq_true_eq] at h
      obtain ⟨rfl, h1, rfl, h2, rfl, h3, h4, h5, h6⟩ := h
      exact pl (snd_srd S.C (chkE_ok a S h5).1 (chkE_ok b S h6).1 (gl_of S.R h1) (gl_of S.R h2) h3 h4) fun _ => rfl
    · cases h
  | .popi i a, X, sc, ee, S, h => by
    unfold chkE ckMt at h
    split at h
    · simp only [Bool.and_eq_true, decide_eq_true_eq] at h
      obtain ⟨rfl, h1, h2, h3, h4⟩ := h
      obtain ⟨g1, g2, g3, g4⟩ := atN_of S.hN S.R h1
      exact pl (snd_popi (pe_var g1 g2 g3 g4) (chkE_ok a S h4).1 h2 h3) fun _ => rfl
    · cases h
  | .jn a b, X, sc, ee, S, h => by
    unfold chkE ckMtE at h
    split at h
    · simp only [Bool.and_eq_true, decide_eq_true_eq] at h
      obtain ⟨rfl, h1, h2, h3, h4, h5⟩ := h
      exact pl (snd_jn (chkE_ok a S h4).1 (chkE_ok b S h5).1 h1 h2 h3) fun _ => rfl
    · cases h
  | .sfi a b, X, sc, ee, S, h => by
    unfold chkE ckMtE at h
    split at h
    · simp only [Bool.and_eq_true, decide_eq_true_eq] at h
      obtain ⟨rfl, h1, h2, h3, h4, h5⟩ := h
      exact pl (snd_sfi (chkE_ok a S h4).1 (chkE_ok b S h5).1 h1 h2 h3) fun _ => rfl
    · cases h
  | .ins i a b, X, sc, ee, S, h => by
    unfold chkE ckMt2 at h
    split at h
    · simp only [Bool.and_eq_true, decide_eq_true_eq] at h
      obtain ⟨rfl, h1, h2, h3, h4, h5, h6⟩ := h
      obtain ⟨g1, g2, g3, g4⟩ := atN_of S.hN S.R h1
      exact pl (snd_ins (pe_var g1 g2 g3 g4) (chkE_ok a S h5).1 (chkE_ok b S h6).1 h2 h3 h4) fun _ => rfl
    · cases h
  | .bad, X, sc, ee, S, h => ⟨snd_bad, fun _ c r σ H Q hK hcm tk E h => by
      unfold ev at h
      exact h.elim⟩
theorem chkEs_ok : ∀ (as : Es) {X : Cx} {sc : Scope} {es : List Expr}, St1 cn X cm tb k sc → chkEs cn as sc es = true → SndA X cm tb as es ∧ SndV X cm tb as es ∧ SndM X cm tb as es
  | .nil, X, sc, es, S, h => by
    unfold chkEs at h
    rw [es_nil h]
    exact ⟨snda_nil, sndv_nil, sndm_nil⟩
  | .cons a as, X, sc, [], S, h => by unfold chkEs at h; cases h
  | .cons a as, X, sc, e :: es, S, h => by
    unfold chkEs at h
    simp only [Bool.and_eq_true] at h
    obtain ⟨h1, h2, h3⟩ := h
    have A := (chkE_ok a S h2).1
    obtain ⟨B1, B2, B3⟩ := chkEs_ok as S h3
    exact ⟨snda_cons A B1 h1, sndv_cons A B2 h1, sndm_cons A B3 h1⟩
  | .star a as, X, sc, es, S, h => by
    unfold chkEs at h
    split at h
    · rw [Bool.and_eq_true] at h
      refine ⟨snda_star (chkE_ok a S h.1).1 (chkEs_ok as S h.2).1, fun c r σ H Q hK hcm tk E h => ?_, fun ms c r σ H Q hK hcm tk E h => ?_⟩
      · unfold evv at h; exact h.elim
      · cases ms with
        | nil => unfold evm at h; exact h.elim
        | cons m ms => cases m <;> (unfold evm at h; exact h.elim)
    · cases h
theorem chkKw_ok : ∀ (as : Es) {X : Cx} {sc : Scope} {es : List Keyword}, St1 cn X cm tb k sc → chkKw cn as sc es = true → SndKw X cm tb as es
  | .nil, X, sc, es, S, h => by
    unfold chkKw at h
    have : es = [] := by cases es <;> first | rfl | cases h
    rw [this]
    exact sndkw_nil
  | .cons a as, X, sc, [], S, h => by unfold chkKw at h; cases h
  | .star _ _, X, sc, es, S, h => by unfold chkKw at h; cases h
  | .cons a as, X, sc, ⟨nm, e, p⟩ :: es, S, h => by
    unfold chkKw at h
    simp only [Bool.and_eq_true] at h
    exact sndkw_cons (chkE_ok a S h.1).1 (chkKw_ok as S h.2)
theorem chkO_ok : ∀ (a : Eo) {X : Cx} {sc : Scope} {e : Option Expr}, St1 cn X cm tb k sc → chkO cn a sc e = true → SndO X cm tb a e
  | .no, X, sc, none, S, h => sndO_no
  | .no, X, sc, some e, S, h => by unfold chkO at h; cases h
  | .e a, X, sc, none, S, h => by unfold chkO at h; cases h
  | .e a, X, sc, some e, S, h => by
    unfold chkO at h
    exact sndO_e (chkE_ok a S h).1
theorem chkCo_ok : ∀ (a : Eo) {X : Cx} {sc : Scope} {es : List Expr}, St1 cn X cm tb k sc → chkCo cn a sc es = true → SndC X cm tb a es
  | .no, X, sc, es, S, h => by
    unfold chkCo at h
    rw [es_nil h]
    exact sndC_no
  | .e a, X, sc, [], S, h => by unfold chkCo at h; cases h
  | .e a, X, sc, _ :: _ :: _, S, h => by unfold chkCo at h; cases h
  | .e a, X, sc, [e], S, h => by
    unfold chkCo at h
    simp only [Bool.and_eq_true] at h
    exact sndC_e ((chkE_ok a S h.2).2 h.1)
theorem chkI_ok : ∀ (it : Di.It) {X : Cx} {sc : Scope} {tg e : Expr}, St1 cn X cm tb k sc → chkI cn it sc tg e = true → SndI X cm tb it tg e
  | .e a, X, sc, tg, e, S, h => by
    unfold chkI at h
    exact sndi_e (chkE_ok a S h).1
  | .r1 a, X, sc, tg, e, S, h => by
    unfold chkI ckR1 at h
    split at h
    · simp only [Bool.and_eq_true, decide_eq_true_eq] at h
      obtain ⟨rfl, h1, h2, h3⟩ := h
      exact sndi_r1 S.C (chkE_ok a S h3).1 (gl_of S.R h1) h2
    · cases h
  | .r2 a b, X, sc, tg, e, S, h => by
    unfold chkI ckR2 at h
    split at h
    · simp only [Bool.and_eq_true, decide_eq_true_eq] at h
      obtain ⟨rfl, h1, h2, h3, h4, h5⟩ := h
      exact sndi_r2 S.C (chkE_ok a S h4).1 (chkE_ok b S h5).1 (gl_of S.R h1) h2 h3
    · cases h
  | .zip a b, X, sc, tg, e, S, h => by
    unfold chkI ckZip at h
    split at h
    · simp only [Bool.and_eq_true, decide_eq_true_eq] at h
      obtain ⟨rfl, h1, h2, h3, h4, h5, h6⟩ := h
      cases tg <;> first | (cases h6; done) | exact sndi_zip S.C (chkE_ok a S h4).1 (chkE_ok b S h5).1 (gl_of S.R h1) h2 h3
    · cases h
  | .rvr a, X, sc, tg, e, S, h => by
    unfold chkI ckTwo at h
    split at h
    · simp only [Bool.and_eq_true, decide_eq_true_eq] at h
      obtain ⟨rfl, h1, rfl, h2, h3, h4⟩ := h
      exact sndi_rvr S.C (chkE_ok a S h4).1 (gl_of S.R h1) (gl_of S.R h2) h3
    · cases h
  | .en a, X, sc, tg, e, S, h => by
    unfold chkI ckEn at h
    split at h
    · simp only [Bool.and_eq_true, decide_eq_true_eq] at h
      obtain ⟨rfl, h1, h2, h3, h4⟩ := h
      cases tg <;> first | (cases h4; done) | exact sndi_en S.C (chkE_ok a S h3).1 (gl_of S.R h1) h2
    · cases h
  | .ez a b, X, sc, tg, e, S, h => by
    unfold chkI ckEz at h
    split at h
    · simp only [Bool.and_eq_true, decide_eq_true_eq] at h
      obtain ⟨rfl, h0, rfl, h1, h2, h3, h4, h5, h6⟩ := h
      cases tg <;> first | (cases h6; done) | exact sndi_ez S.C (chkE_ok a S h4).1 (chkE_ok b S h5).1 (gl_of S.R h0) (gl_of S.R h1) h2 h3
    · cases h
end
end
end Di
namespace Di
open PySem PySem.Spec PyProof.Rows L2
def locB (sc : Scope) (x : Str) : Bool := lkB sc x .local || lkB sc x .cell
def isLc : E → Bool
  | .lc _ _ _ _ => true
  | _ => false
section
variable (cn : Cn)
def atL (sc : Scope) (i : Nat) (x : Str) : Bool := decide (cn.N[i]? = some x) && locB sc x
def ckAsgN (sc : Scope) (i : Nat) (lc : Bool) (fe : Expr → Bool) : Stmt → Bool
  | .Assign [.Name x _] ee _ => atL cn sc i x && ((lc || noComp ee) && fe ee)
  | _ => false
def ckAsgT (sc : Scope) (is : List Nat) (fe : Expr → Bool) : Stmt → Bool
  | .Assign [.Tuple es _ _] ee _ => noTup ee && (fe ee && match ownNs is es with
    | some own => own.all fun q => atL cn sc q.2 q.1
    | none => false)
  | _ => false
def ckSet2 (sc : Scope) (i j : Nat) (fe : Expr → Bool) : Stmt → Bool
  | .Assign [.Name x _, .Name y _] ee _ => atL cn sc i x && (atL cn sc j y && fe ee)
  | _ => false
def ckAug (sc : Scope) (i : Nat) (o : Bop) (fe : Expr → Bool) : Stmt → Bool
  | .AugAssign (.Name x _) op ee _ => decide (op = bopO o) && (atL cn sc i x && fe ee)
  | _ => false
def ckSix (sc : Scope) (i : Nat) (fx fe : Expr → Bool) : Stmt → Bool
  | .Assign [.Subscript (.Name x _) ex _] ee _ => atN cn sc i x && (noSlice ex && (fx ex && fe ee))
  | _ => false
def ckSwp (sc : Scope) (i : Nat) (fa fb fe : Expr → Bool) : Stmt → Bool
  | .Assign [.Tuple [.Subscript (.Name x _) ea _, .Subscript (.Name y _) eb _] _ _] ee _ => decide (y = x) && (atN cn sc i x && (noSlice ea && (noSlice eb && (fa ea && (fb eb && fe ee)))))
  | _ => false
def ckPar2 (sc : Scope) (i j : Nat) (fs : List Expr → Bool) : Stmt → Bool
  | .Assign [.Tuple [.Name x px, .Name y py] _ _] (.Tuple [a, b] _ _) _ => decide (cn.N[i]? = some x) && (decide (cn.N[j]? = some y) && (lkB sc x .local && (lkB sc y .local && (decide (i ≠ j) && (decide (x ≠ y) && (decide (px.line = py.line) && (notStar a && (notStar b && (!([a, b].all (foldedForSure 8)) && (!([a, b].all (constantsAlone 8)) && fs [a, b]))))))))))
  | _ => false
def ckExp (fe : Expr → Bool) : Stmt → Bool
  | .Expr ee _ => noComp ee && fe ee
  | _ => false
def ckRet (fe : Expr → Bool) : Stmt → Bool
  | .Return (some ee) _ => fe ee
  | _ => false
def ckIf (fe : Expr → Bool) (fa fb : List Stmt → Bool) : Stmt → Bool
  | .If ee a b _ => fe ee && (fa a && fb b)
  | _ => false
def ckFor (sc : Scope) (t : Tg) (fi : Expr → Expr → Bool) (fb : List Stmt → Bool) : Stmt → Bool
  | .For tg iter body [] _ => noSet iter && (fi tg iter && (fb body && match ownT t tg with
    | some own => own.all fun q => atL cn sc q.2 q.1
    | none => false))
  | _ => false
def ckWhl (fe : Expr → Bool) (fb : List Stmt → Bool) : Stmt → Bool
  | .While ee body [] _ => fe ee && fb body
  | _ => false
mutual
def chkS : S → Scope → Stmt → Bool
  | .asg (.n i) e, sc => ckAsgN cn sc i (isLc e) (chkE cn e sc)
  | .asg (.t is) e, sc => ckAsgT cn sc is (chkE cn e sc)
  | .asg (.p _ _ _) _, _ => fun _ => false
  | .set2 i j e, sc => ckSet2 cn sc i j (chkE cn e sc)
  | .aug i o e, sc => ckAug cn sc i o (chkE cn e sc)
  | .six i x e, sc => ckSix cn sc i (chkE cn x sc) (chkE cn e sc)
  | .dst i x e, sc => ckSix cn sc i (chkE cn x sc) (chkE cn e sc)
  | .swp i a b e, sc => ckSwp cn sc i (chkE cn a sc) (chkE cn b sc) (chkE cn e sc)
  | .par is as, sc => match is with
    | [i, j] => ckPar2 cn sc i j (chkEs cn as sc)
    | _ => fun _ => false
  | .exp e, sc => ckExp (chkE cn e sc)
  | .ret e, sc => ckRet (chkE cn e sc)
  | .retn, _ => fun s => match s with
    | .Return none _ => true
    | _ => false
  | .ife c a b, sc => ckIf (fun e => noIte c && chkE cn c sc e) (chkSs a sc) (chkSs b sc)
  | .for_ t it b, sc => ckFor cn sc t (chkI cn it sc) (chkSs b sc)
  | .whl _ c b, sc => ckWhl (fun e => noIte c && chkE cn c sc e) (chkSs b sc)
  | .brk, _ => fun s => match s with
    | .Break _ => true
    | _ => false
  | .cnt, _ => fun s => match s with
    | .Continue _ => true
    | _ => false
  | .pas, _ => fun s => match s with
    | .Pass _ => true
    | _ => false
  | .bad, _ => fun _ => true
def chkSs : Ss → Scope → List Stmt → Bool
  | .nil, _ => fun ss => ss.isEmpty
  | .cons s ss, sc => fun st => match st with
    | [] => false
    | x :: xs => chkS s sc x && chkSs ss sc xs
end
end
theorem asg_ix {o e : Expr} {p : Pos} {env : PySem.Env} (h : noSlice e = true) : ∀ v, assign (.Subscript o e p) env v = (do
      let ov ← holding [v] (eval o env)
      let iv ← holding [v, ov] (eval e env)
      standAt p
      holding [v, ov, iv] (setItem ov iv v)
      release [v, ov, iv] []) := by
  intro v
  cases e <;> first | rfl | cases h
theorem sole_sub {o i : Expr} {p : Pos} {ee : Expr} {l : Nat} {env : PySem.Env} : swapsWithSole [.Subscript o i p] ee l env = pure false := by cases ee <;> rfl
theorem sole_tup {es : List Expr} {kt : Nat} {p : Pos} {ee : Expr} {l : Nat} {env : PySem.Env} : swapsWithSole [.Tuple es kt p] ee l env = pure false := by cases ee <;> rfl
theorem st_sub {o i : Expr} {p : Pos} {ee : Expr} {env : PySem.Env} : swappedStores [.Subscript o i p] ee env = pure none := by cases ee <;> rfl
theorem st_tup {es : List Expr} {kt : Nat} {p : Pos} {ee : Expr} {env : PySem.Env} (h : noTup ee = true) : swappedStores [.Tuple es kt p] ee env = pure none := by cases ee <;> first | rfl | cases h
theorem st_two {a b : Expr} {ee : Expr} {env : PySem.Env} : swappedStores [a, b] ee env = pure none := by cases ee <;> cases a <;> rfl
theorem st_subs {o i o' i' : Expr} {p p' : Pos} {kt : Nat} {pt : Pos} {ee : Expr} {env : PySem.Env} : swappedStores [.Tuple [.Subscript o i p, .Subscript o' i' p'] kt pt] ee env = pure none := by
  cases ee <;> try rfl
  unfold swappedStores
  simp only [List.filterMap_cons, List.filterMap_nil, List.length_nil, List.length_cons]
  split
  · rfl
  · split
    · rfl
    · rfl
theorem swaps_no {ee : Expr} {t : Option Expr} {l : Nat} {env : PySem.Env} (h : noComp ee = true) : swapsWith ee t l env = pure false := by cases ee <;> first | rfl | cases h
theorem swaps_lc {a : Expr} {g : List Comprehension} {s : Scope} {vp p : Pos} {t : Str} {l : Nat} {env : PySem.Env} : ∃ b, swapsWith (.ListComp a g s vp) (some (.Name t p)) l env = pure b ∧ (b = true → env.kindOf t = some .local) := by
  refine ⟨env.blockKind == .function && env.kindOf t == some .local && p.line == vp.line && !(s.names.any fun (n, k) => n == t && (k == .local || k == .cell)), rfl, fun h => ?_⟩
  simp only [Bool.and_eq_true] at h
  exact eq_of_beq h.1.1.2
end Di
namespace Di
open PySem PySem.Spec PyProof.Rows L2
structure St2 (cn : Cn) (X : Cx) (cm : Nat → Value) (tb : List Fn) (k : Nat) (sc : Scope) : Prop where
  C : Cok X cm cn.sg tb cn.gs k
  B : BodyAt X cn.N sc
  kd : sc.kind = .function
section
variable {cn : Cn} {X : Cx} {cm : Nat → Value} {tb : List Fn} {k : Nat} {sc : Scope}
theorem St2.e (S : St2 cn X cm tb k sc) : St1 cn X cm tb k sc := ⟨S.C, S.B.hN, by rw [S.B.sc]; exact .refl _⟩
theorem loc_of {x : Str} (h : locB sc x = true) : Loc sc x := by
  unfold locB at h
  rw [Bool.or_eq_true] at h
  rcases h with h | h
  · exact .inl (lkB_eq h)
  · exact .inr (lkB_eq h)
theorem St2.at_ (S : St2 cn X cm tb k sc) {i : Nat} {x : Str} (h : atL cn sc i x = true) : X.N[i]? = some x ∧ Loc X.env.scope x ∧ (X.fn x = true ∨ X.env.scope.names.lookup x = some .local) := by
  unfold atL at h
  rw [Bool.and_eq_true, decide_eq_true_eq] at h
  exact ⟨by rw [S.B.hN]; exact h.1, by rw [S.B.sc]; exact loc_of h.2, .inl (S.B.fn x)⟩
theorem ckPar2_sw (S : St2 cn X cm tb k sc) {x y : Str} {px py pt : Pos} {a b : Expr} {kt k2 : Nat} {pt2 : Pos} (hx : sc.names.lookup x = some .local) (hy : sc.names.lookup y = some .local) (hn : x ≠ y) (hp : px.line = py.line) (ha : notStar a = true) (hb : notStar b = true)
    (h1 : [a, b].all (foldedForSure 8) = false) (h2 : [a, b].all (constantsAlone 8) = false) : swappedStores [.Tuple [.Name x px, .Name y py] kt pt] (.Tuple [a, b] k2 pt2) X.env = pure (some [x, y]) := by
  have hk1 : X.env.kindOf x = some .local := by show X.env.scope.names.lookup x = _; rw [S.B.sc]; exact hx
  have hk2 : X.env.kindOf y = some .local := by show X.env.scope.names.lookup y = _; rw [S.B.sc]; exact hy
  have bk : X.env.blockKind = .function := by
    unfold Env.blockKind
    rw [S.B.sc, S.kd]; rfl
  have st : ([a, b].any fun | .Starred .. => true | _ => false) = false := by
    have z : ∀ {e : Expr}, notStar e = true → (match e with | .Starred .. => true | _ => false) = false := fun {e} h => by cases e <;> first | rfl | cases h
    simp only [List.any_cons, List.any_nil, Bool.or_false]
    rw [z ha, z hb]; rfl
  have ne : ([x, y] : List Str).eraseDups = [x, y] := by
    have : (y == x) = false := by rw [beq_eq_false_iff_ne]; exact fun e => hn e.symm
    simp [List.eraseDups_cons, this]
  unfold swappedStores
  have hl : (px.line == px.line) = true := beq_self_eq_true _
  have hl2 : (py.line == px.line) = true := by rw [hp]; exact beq_self_eq_true _
  have z1 : (some NameKind.local == some NameKind.local) = true := by decide
  simp only [List.length_cons, List.length_nil, bk, List.head?_cons, Option.map_some, Option.getD_some, Expr.pos, List.filterMap_cons, List.filterMap_nil, hk1, hk2, hl, hl2, z1, Bool.and_self, if_true, ne, h1, h2, st]
  refine (if_neg (by decide)).trans ((if_neg fun q => Bool.false_ne_true (st.symm.trans q)).trans ((if_neg (by decide)).trans ((if_neg (by decide)).trans (if_neg (by decide)))))
mutual
theorem chkS_ok : ∀ (s : S) {st : Stmt}, St2 cn X cm tb k sc → chkS cn s sc st = true → SndS X cm (ex1 tb s) st
  | .asg (.n i) e, st, S, h => by
    unfold chkS ckAsgN at h
    split at h
    · rename_i x p ee pos
      simp only [Bool.and_eq_true, Bool.or_eq_true] at h
      obtain ⟨h1, h2, h3⟩ := h
      obtain ⟨g1, g2, g3⟩ := S.at_ h1
      have he := chkE_ok e S.e h3
      have lc : isLc e = true → SndS X cm (ex1 tb (.asg (.n i) e)) (.Assign [.Name x p] ee pos) := fun hl => by
        cases e <;> first | (cases hl; done) | skip
        rename_i t it co elt
        unfold chkE at h3
        obtain ⟨tg, iter, ifs, scope, eelt, p', own, rfl, e1, e2, e3, e4, e5, e6, e7⟩ := ckLc_inv S.e h3
        obtain ⟨b, hb, hb2⟩ := swaps_lc (a := eelt) (g := [⟨tg, iter, ifs, 0⟩]) (s := scope) (vp := p') (p := p) (t := x) (l := pos.line) (env := X.env)
        cases b with
        | false => exact snds_asg S.C he.1 g1 g2 g3 hb
        | true =>
          refine snds_lc S.C g1 (hb2 rfl) hb (chkI_ok it S.e e1) e4 e5 e6 (fun s H C cl fp => chkCo_ok co (S.e.blk scope s H C cl fp) e2) (fun s H C cl fp => (chkE_ok elt (S.e.blk scope s H C cl fp) e3).1) e7
      rcases h2 with h2 | h2
      · exact lc h2
      · exact snds_asg S.C he.1 g1 g2 g3 (swaps_no h2)
    · cases h
  | .asg (.t is) e, st, S, h => by
    unfold chkS ckAsgT at h
    split at h
    · simp only [Bool.and_eq_true] at h
      obtain ⟨h1, h2, h3⟩ := h
      split at h3
      · rename_i own eo
        rw [List.all_eq_true] at h3
        obtain ⟨g1, g2, g3, g4⟩ := pgs_nms (X := X) (sc := sc) S.C.nd eo fun q hq => S.at_ (h3 q hq)
        exact snds_asgT (chkE_ok e S.e h2).1 (pg_seq S.C.hc g1 g2 g3) sole_tup (st_tup h1) rfl
      · cases h3
    · cases h
  | .set2 i j e, st, S, h => by
    unfold chkS ckSet2 at h
    split at h
    · simp only [Bool.and_eq_true] at h
      obtain ⟨h1, h2, h3⟩ := h
      obtain ⟨g1, g2, g3⟩ := S.at_ h1
      obtain ⟨f1, f2, f3⟩ := S.at_ h2
      exact snds_set2 S.C (chkE_ok e S.e h3).1 g1 g2 g3 f1 f2 f3 rfl st_two
    · cases h
  | .aug i o e, st, S, h => by
    unfold chkS ckAug at h
    split at h
    · simp only [Bool.and_eq_true, decide_eq_true_eq] at h
      obtain ⟨rfl, h1, h2⟩ := h
      obtain ⟨g1, g2, g3⟩ := S.at_ h1
      exact snds_aug S.C (chkE_ok e S.e h2).1 g1 g2 g3
    · cases h
  | .six i xe e, st, S, h => by
    unfold chkS ckSix at h
    split at h
    · simp only [Bool.and_eq_true] at h
      obtain ⟨h1, h2, h3, h4⟩ := h
      obtain ⟨g1, g2, g3, g4⟩ := atN_of S.e.hN S.e.R h1
      exact snds_six (pe_var g1 g2 g3 g4) (chkE_ok xe S.e h3).1 (chkE_ok e S.e h4).1 (asg_ix h2) sole_sub st_sub rfl
    · cases h
  | .dst i xe e, st, S, h => by
    unfold chkS ckSix at h
    split at h
    · simp only [Bool.and_eq_true] at h
      obtain ⟨h1, h2, h3, h4⟩ := h
      obtain ⟨g1, g2, g3, g4⟩ := atN_of S.e.hN S.e.R h1
      exact snds_dst S.C (pe_var g1 g2 g3 g4) (chkE_ok xe S.e h3).1 (chkE_ok e S.e h4).1 (asg_ix h2) sole_sub st_sub rfl
    · cases h
  | .swp i ae be e, st, S, h => by
    unfold chkS ckSwp at h
    split at h
    · simp only [Bool.and_eq_true, decide_eq_true_eq] at h
      obtain ⟨rfl, h1, h2, h3, h4, h5, h6⟩ := h
      obtain ⟨g1, g2, g3, g4⟩ := atN_of S.e.hN S.e.R h1
      exact snds_swp S.C (pe_var g1 g2 g3 g4) (pe_var g1 g2 g3 g4) (chkE_ok ae S.e h4).1 (chkE_ok be S.e h5).1 (chkE_ok e S.e h6).1 (asg_ix h2) (asg_ix h3) (fun T hT => pg_tup S.C.hc hT rfl rfl) rfl rfl sole_tup st_subs rfl
    · cases h
  | .par is as, st, S, h => by
    unfold chkS at h
    split at h
    · rename_i i j
      unfold ckPar2 at h
      split at h
      · simp only [Bool.and_eq_true, decide_eq_true_eq] at h
        obtain ⟨h1, h2, h3, h4, h5, h6, h7, h8, h9, h10, h11, h12⟩ := h
        exact snds_par2 S.C (by rw [S.B.hN]; exact h1) (by rw [S.B.hN]; exact h2) h5 (by rw [S.B.sc]; exact lkB_eq h3) (by rw [S.B.sc]; exact lkB_eq h4) (chkEs_ok as S.e h12).1 (ckPar2_sw S (lkB_eq h3) (lkB_eq h4) h6 h7 h8 h9 (not_t h10) (not_t h11)) sole_tup
      · cases h
    · cases h
  | .exp e, st, S, h => by
    unfold chkS ckExp at h
    split at h
    · simp only [Bool.and_eq_true] at h
      exact snds_exp (chkE_ok e S.e h.2).1 (ps_expr (se _) (swaps_no h.1))
    · cases h
  | .ret e, st, S, h => by
    unfold chkS ckRet at h
    split at h
    · exact snds_ret (chkE_ok e S.e h).1
    · cases h
  | .retn, st, S, h => by
    unfold chkS at h
    split at h
    · exact snds_retn
    · cases h
  | .ife e a b, st, S, h => by
    unfold chkS ckIf at h
    split at h
    · simp only [Bool.and_eq_true] at h
      obtain ⟨⟨h0, h1⟩, h2, h3⟩ := h
      exact snds_if ((chkE_ok e S.e h1).2 h0) (chkSs_ok a S h2) (chkSs_ok b S h3)
    · cases h
  | .for_ t it b, st, S, h => by
    unfold chkS ckFor at h
    split at h
    · simp only [Bool.and_eq_true] at h
      obtain ⟨h1, h2, h3, h4⟩ := h
      split at h4
      · rename_i own eo
        rw [List.all_eq_true] at h4
        exact snds_for S.B.own S.C (chkI_ok it S.e h2) (pg_tgt S.C.nd S.C.hc eo fun q hq => S.at_ (h4 q hq)).1 (chkSs_ok b S h3) (plain_set h1)
      · cases h4
    · cases h
  | .whl n e b, st, S, h => by
    unfold chkS ckWhl at h
    split at h
    · simp only [Bool.and_eq_true] at h
      obtain ⟨⟨h0, h1⟩, h2⟩ := h
      exact snds_whl S.B.own ((chkE_ok e S.e h1).2 h0) (chkSs_ok b S h2)
    · cases h
  | .brk, st, S, h => by
    unfold chkS at h
    split at h
    · exact snds_brk
    · cases h
  | .cnt, st, S, h => by
    unfold chkS at h
    split at h
    · exact snds_cnt
    · cases h
  | .pas, st, S, h => by
    unfold chkS at h
    split at h
    · exact snds_pas
    · cases h
  | .bad, st, S, h => fun c r σ H D hK hcm tk E h => by
    unfold ex1 at h
    exact h.elim
theorem chkSs_ok : ∀ (s : Ss) {st : List Stmt}, St2 cn X cm tb k sc → chkSs cn s sc st = true → SndSs X cm (exs tb s) st
  | .nil, st, S, h => by
    unfold chkSs at h
    have : st = [] := by cases st <;> first | rfl | cases h
    rw [this]
    exact snds_nil
  | .cons s ss, [], S, h => by unfold chkSs at h; cases h
  | .cons s ss, x :: xs, S, h => by
    unfold chkSs at h
    rw [Bool.and_eq_true] at h
    exact snds_cons (chkS_ok s S h.1) (chkSs_ok ss S h.2)
end
end
/-- THE RULE for a def, by a look at its text -/
theorem fng_chk {P : Program} {w : World} {K : PySem.W.Frag} {mg : Str → Option Value} {base : Heap} {cm : Nat → Value} {tb : List Fn} {k : Nat} {cn : Cn} {f : Addr} {name qual : Str} {params : Arguments} {body : List Stmt} {scope : Scope} {dV kV doc pm cdv ct oc : Value} {an od : Option Addr} {osl : Array (Option Value)} {ps ks : List Str} {md : List Bool} {b : Ss} {dvs : List Value} {dv : List V} {dd : List PyData}
    (lk : K.lookup f = some ⟨oc, od, .func (PySem.W.fnOf name qual params body scope dV kV doc pm an cdv ct), osl⟩) (hcd : PySem.W.codeIn K cdv qual = true) (S : C8.scC cn.N ps scope = true)
    (hl : md.length + dd.length = ps.length) (hd : Vals dv dvs) (hdr : ∀ H P, RpL K H P dv dd)
    (hb : ∀ us : List Value, us.length = md.length → bindArgs (PySem.W.fnOf name qual params body scope dV kV doc pm an cdv ct) (argsOf us ks) = pure (ps.zip (us ++ dvs)))
    (Kn0 : Kn P w K mg base cm cn.sg tb cn.gs k) (hB : chkSs cn b scope body = true) : FnG P w K mg base cm (k + 1) f ks ⟨md, fun ds => fnRun tb cn.N.length (md ++ List.replicate dd.length false) b (ds ++ dd)⟩ :=
  have S := C8.fnScope_by S
  fng_of lk hcd S hl hd hdr hb Kn0 fun X B C => chkSs_ok b ⟨C, B, S.kind⟩ hB
/-- the same for def f(a, .., *v), called with n + m arguments by place -/
theorem fng_chk_star {P : Program} {w : World} {K : PySem.W.Frag} {mg : Str → Option Value} {base : Heap} {cm : Nat → Value} {tb : List Fn} {k : Nat} {cn : Cn} {f : Addr} {name qual : Str} {params : Arguments} {body : List Stmt} {scope : Scope} {dV kV doc pm cdv ct oc : Value} {an od : Option Addr} {osl : Array (Option Value)} {ps : List Str} {pv : Str} {n m : Nat} {b : Ss}
    (lk : K.lookup f = some ⟨oc, od, .func (PySem.W.fnOf name qual params body scope dV kV doc pm an cdv ct), osl⟩) (hcd : PySem.W.codeIn K cdv qual = true) (S : C8.scC cn.N (ps ++ [pv]) scope = true) (hn : ps.length = n) (hm : m ≤ 100000)
    (hb : ∀ us rest : List Value, us.length = n → rest.length = m → bindArgs (PySem.W.fnOf name qual params body scope dV kV doc pm an cdv ct) ⟨us ++ rest, []⟩ = (newTuple rest >>= fun t => pure (ps.zip us ++ [(pv, t)])))
    (Kn0 : Kn P w K mg base cm cn.sg tb cn.gs k) (hB : chkSs cn b scope body = true) : FnG P w K mg base cm (k + 1) f [] ⟨List.replicate (n + m) false, fun ds => fnRun tb cn.N.length (List.replicate (n + 1) false) b (ds.take n ++ [.tuple (ds.drop n)])⟩ :=
  have S := C8.fnScope_by S
  fng_star lk hcd S hn hm hb Kn0 fun X B C => chkSs_ok b ⟨C, B, S.kind⟩ hB
/-- .. by names in another order, with defaults of the written part -/
theorem fng_chk_bt {P : Program} {w : World} {K : PySem.W.Frag} {mg : Str → Option Value} {base : Heap} {cm : Nat → Value} {tb : List Fn} {k : Nat} {cn : Cn} {f : Addr} {name qual : Str} {params : Arguments} {body : List Stmt} {scope : Scope} {dV kV doc pm cdv ct oc : Value} {an od : Option Addr} {osl : Array (Option Value)} {ps ks : List Str} {n : Nat} {b : Ss} {g : List Value → List Value} {gd : List PyData → List PyData}
    (lk : K.lookup f = some ⟨oc, od, .func (PySem.W.fnOf name qual params body scope dV kV doc pm an cdv ct), osl⟩) (hcd : PySem.W.codeIn K cdv qual = true) (S : C8.scC cn.N ps scope = true)
    (hrel : ∀ (vs : List V) (us : List Value) (ds : List PyData) (H : Hp) (Pa : Addr → Prop), us.length = n → Vals vs us → RpL K H Pa vs ds → ∃ vs', Vals vs' (g us) ∧ RpL K H Pa vs' (gd ds) ∧ vs'.length = ps.length)
    (hb : ∀ (s : Shared) (us : List Value), K.In s.heap → us.length = n → BindsTo s (PySem.W.fnOf name qual params body scope dV kV doc pm an cdv ct) (argsOf us ks) (ps.zip (g us)))
    (Kn0 : Kn P w K mg base cm cn.sg tb cn.gs k) (hB : chkSs cn b scope body = true) : FnG P w K mg base cm (k + 1) f ks ⟨List.replicate n false, fun ds => fnRun tb cn.N.length (List.replicate ps.length false) b (gd ds)⟩ :=
  have S := C8.fnScope_by S
  fng_bt lk hcd S hrel hb Kn0 fun X B C => chkSs_ok b ⟨C, B, S.kind⟩ hB
end Di
namespace Di
open PySem PySem.Spec PyProof.Rows L2
section
variable {P : Program} {w : World} {K : PySem.W.Frag} {mg : Str → Option Value} {base : Heap} {cm : Nat → Value} {k : Nat}
inductive Calls (P : Program) (w : World) (K : PySem.W.Frag) (mg : Str → Option Value) (base : Heap) (cm : Nat → Value) (k : Nat) : List Sig → List Fn → Prop
  | nil : Calls P w K mg base cm k [] []
  | cons {s : Sig} {f : Fn} {sg : List Sig} {tb : List Fn} : (∃ a, mg s.nm = some (.ref a) ∧ PySem.W.keepIn K (.ref a) = true ∧ FnG P w K mg base cm k a s.ks f) → Calls P w K mg base cm k sg tb → Calls P w K mg base cm k (s :: sg) (f :: tb)
theorem calls_ok {sg : List Sig} {tb : List Fn} (h : Calls P w K mg base cm k sg tb) : ∀ (j : Nat) (s : Sig) (f : Fn), sg[j]? = some s → tb[j]? = some f → ∃ a, mg s.nm = some (.ref a) ∧ PySem.W.keepIn K (.ref a) = true ∧ FnG P w K mg base cm k a s.ks f := by
  induction h with
  | nil => intro j s f e; simp at e
  | cons x _ ih =>
    intro j s f e1 e2
    cases j with
    | zero => simp only [List.getElem?_cons_zero, Option.some.injEq] at e1 e2; subst e1 e2; exact x
    | succ j => exact ih j s f (by simpa using e1) (by simpa using e2)
inductive Gcs (K : PySem.W.Frag) (w : World) (mg : Str → Option Value) : List (Str × PyData) → Prop
  | nil : Gcs K w mg []
  | cons {x : Str} {d : PyData} {gs : List (Str × PyData)} : GcOk K w mg x d → Gcs K w mg gs → Gcs K w mg ((x, d) :: gs)
theorem gcs_ok {gs : List (Str × PyData)} (h : Gcs K w mg gs) : ∀ x d, (x, d) ∈ gs → GcOk K w mg x d := by
  induction h with
  | nil => intro x d m; cases m
  | cons y _ ih =>
    intro x d m
    rcases List.mem_cons.mp m with e | e
    · cases e; exact y
    · exact ih x d e
end
/-- values in another order -/
theorem perm_rel {n : Nat} {ps : List Str} (pi : List Nat) (hp : pi.all (· < n) = true) (hl : pi.length = ps.length) (vs : List V) (us : List Value) (ds : List PyData) {K : PySem.W.Frag} (H : Hp) (Pa : Addr → Prop) (hu : us.length = n) (r : Vals vs us) (g : RpL K H Pa vs ds) :
    ∃ vs', Vals vs' (pi.map fun i => us.getD i .none) ∧ RpL K H Pa vs' (pi.map fun i => ds.getD i .none) ∧ vs'.length = ps.length := by
  have key : ∀ (pi : List Nat), pi.all (· < n) = true → ∃ vs', Vals vs' (pi.map fun i => us.getD i .none) ∧ RpL K H Pa vs' (pi.map fun i => ds.getD i .none) ∧ vs'.length = pi.length := fun pi => by
    induction pi with
    | nil => exact fun _ => ⟨[], .nil, .nil, rfl⟩
    | cons i pi ih =>
      intro h
      rw [List.all_cons, Bool.and_eq_true, decide_eq_true_eq] at h
      obtain ⟨vs', a, b, c⟩ := ih h.2
      have l1 := r.length
      have l2 := g.length
      have hi : i < ds.length := by omega
      obtain ⟨v, hv, rv⟩ := g.get (List.getElem?_eq_getElem hi)
      have hu' : i < us.length := by omega
      have hvu : L2.RelV v us[i] := by
        have : ∀ {vs : List V} {us : List Value} {i : Nat} {v : V} {u : Value}, Vals vs us → vs[i]? = some v → us[i]? = some u → L2.RelV v u := by
          intro vs us i v u r
          induction r generalizing i with
          | nil => intro e; simp at e
          | cons a _ ih =>
            intro e1 e2
            cases i with
            | zero => simp only [List.getElem?_cons_zero, Option.some.injEq] at e1 e2; subst e1 e2; exact a
            | succ i => exact ih (i := i) (by simpa using e1) (by simpa using e2)
        exact this r hv (List.getElem?_eq_getElem hu')
      refine ⟨v :: vs', ?_, ?_, by simp [c]⟩
      · rw [List.map_cons, show us.getD i .none = us[i] by rw [List.getD_eq_getElem?_getD, List.getElem?_eq_getElem hu']; rfl]; exact .cons hvu a
      · rw [List.map_cons, show ds.getD i .none = ds[i] by rw [List.getD_eq_getElem?_getD, List.getElem?_eq_getElem hi]; rfl]; exact .cons rv b
  obtain ⟨vs', a, b, c⟩ := key pi hp
  exact ⟨vs', a, b, by rw [c, hl]⟩
/-- .. and defaults behind them -/
theorem perm_rel2 {n : Nat} {ps : List Str} {dvs : List Value} {dv : List V} {dd : List PyData} {K : PySem.W.Frag} (hd : Vals dv dvs) (hdr : ∀ H P, RpL K H P dv dd) (pi : List Nat) (hp : pi.all (· < n + dvs.length) = true) (hl : pi.length = ps.length) (vs : List V) (us : List Value) (ds : List PyData) (H : Hp) (Pa : Addr → Prop) (hu : us.length = n) (r : Vals vs us) (g : RpL K H Pa vs ds) :
    ∃ vs', Vals vs' (pi.map fun i => (us ++ dvs).getD i .none) ∧ RpL K H Pa vs' (pi.map fun i => (ds ++ dd).getD i .none) ∧ vs'.length = ps.length :=
  perm_rel (n := n + dvs.length) pi hp hl (vs ++ dv) (us ++ dvs) (ds ++ dd) H Pa (by rw [List.length_append, hu]) (r.append hd) (g.append (hdr H Pa))
theorem BindsTo_chain {K : PySem.W.Frag} {D : Addr} {fd : FuncData} {args : Args} {binds : List (Str × Value)} {l : List (Str × Value)} (hl : ∀ q ∈ l, PySem.W.nsIn K D q.1 = some (some q.2)) (h : L2.KwChain D l (bindArgs fd args) binds) (s : Shared) (X : K.In s.heap) : BindsTo s fd args binds := L2.BindsTo.of_looks fun M => L2.KwChain.looks X hl h
end Di
namespace Di
open PySem
/-! ## running terms -/
theorem slot_z {a : Sl} {r : En} : slot (a :: r) 0 = a := rfl
theorem slot_s {a : Sl} {r : En} {n : Nat} : slot (a :: r) (n + 1) = slot r n := by unfold slot; simp
theorem setN_zu {r : En} {s : Sl} : setN (.un :: r) 0 s = some (s :: r) := by simp [setN, slot_z]
theorem setN_zs {r : En} {s : Sl} {d : PyData} : setN (.sh d :: r) 0 s = some (s :: r) := by simp [setN, slot_z]
theorem setN_zo {r : En} {s : Sl} {d : PyData} : setN (.ow d :: r) 0 s = some (s :: r) := by simp [setN, slot_z]
theorem setN_s {a : Sl} {r : En} {n : Nat} {s : Sl} : setN (a :: r) (n + 1) s = match setN r n s with | some r' => some (a :: r') | none => none := by
  unfold setN
  rw [slot_s]
  cases h : slot r n <;> simp only [List.length_cons, List.set_cons_succ] <;> first | rfl | skip
  all_goals
    by_cases q : n < r.length
    · rw [if_pos q, if_pos (by omega)]
    · rw [if_neg q, if_neg (by omega)]
theorem chg_zo {r : En} {x d : PyData} : chg (.ow x :: r) 0 d = .ow d :: r := rfl
theorem chg_zr {r : En} {x d : PyData} : chg (.rf x :: r) 0 d = .rf d :: r := rfl
theorem chg_s {a : Sl} {r : En} {n : Nat} {d : PyData} : chg (a :: r) (n + 1) d = a :: chg r n d := by
  unfold chg; rw [slot_s, List.set_cons_succ]
theorem setO_z {a : Sl} {r : En} {x d : PyData} : setO (a :: r) 0 x d = match ownL a with | some xs => (match setC (.list xs) x d with | some c => some (chg (a :: r) 0 c) | none => none) | none => none := by
  unfold setO
  rw [slot_z]
  cases ownL a with
  | none => rfl
  | some xs => simp only; cases setC (.list xs) x d <;> rfl
theorem setO_s {a : Sl} {r : En} {n : Nat} {x d : PyData} : setO (a :: r) (n + 1) x d = match setO r n x d with | some r' => some (a :: r') | none => none := by
  unfold setO
  rw [slot_s]
  cases ownL (slot r n) with
  | none => rfl
  | some xs => simp only [chg_s]; cases setC (.list xs) x d <;> rfl
section
variable {α : Type} {x0 x1 x2 x3 x4 x5 : α} {l : List α}
theorem at_nat {n : Nat} {xs : List α} : L2.atI xs (n : Int) = xs[n]? := by
  unfold L2.atI L2.ixN
  rw [if_pos (by omega)]
  by_cases h : (n : Int) < xs.length
  · rw [if_pos h]; simp
  · rw [if_neg h]; simp; omega
theorem at0 : L2.atI (x0 :: l) 0 = some x0 := at_nat (n := 0)
theorem at1 : L2.atI (x0 :: x1 :: l) 1 = some x1 := at_nat (n := 1)
theorem at2 : L2.atI (x0 :: x1 :: x2 :: l) 2 = some x2 := at_nat (n := 2)
theorem at3 : L2.atI (x0 :: x1 :: x2 :: x3 :: l) 3 = some x3 := at_nat (n := 3)
theorem at4 : L2.atI (x0 :: x1 :: x2 :: x3 :: x4 :: l) 4 = some x4 := at_nat (n := 4)
/-- some item -/
theorem at_some {xs : List α} {i : Int} (h0 : 0 ≤ i) (h : i < xs.length) : ∃ x, L2.atI xs i = some x ∧ x ∈ xs := by
  obtain ⟨n, rfl⟩ := Int.eq_ofNat_of_zero_le h0
  have hn : n < xs.length := by omega
  exact ⟨xs[n], by rw [at_nat]; exact List.getElem?_eq_getElem hn, List.getElem_mem hn⟩
end
section
variable {x0 x1 x2 d : PyData}
theorem set3_0 : setC (.list [x0, x1, x2]) (.int 0) d = some (.list [d, x1, x2]) := rfl
theorem set3_1 : setC (.list [x0, x1, x2]) (.int 1) d = some (.list [x0, d, x2]) := rfl
theorem set3_2 : setC (.list [x0, x1, x2]) (.int 2) d = some (.list [x0, x1, d]) := rfl
end
/-! ## the pen that all laws draw with -/
def pen (L : List Int) (a g : Int) : PyData := .list [scr L, .int a, .int g]
section
variable {x0 x1 x2 x3 x4 x5 x6 x7 x8 x9 x10 x11 x12 x13 x14 x15 : PyData}
theorem sl_ge {n : Nat} (h : n ≤ 10000) : n ≤ sizeLine := Nat.le_trans h (by decide)
theorem ln0 : ([] : List PyData).length ≤ sizeLine := sl_ge (by simp)
theorem ln1 : ([x0] : List PyData).length ≤ sizeLine := sl_ge (by simp)
theorem ln2 : ([x0, x1] : List PyData).length ≤ sizeLine := sl_ge (by simp)
theorem ln3 : ([x0, x1, x2] : List PyData).length ≤ sizeLine := sl_ge (by simp)
theorem ln4 : ([x0, x1, x2, x3] : List PyData).length ≤ sizeLine := sl_ge (by simp)
theorem ln5 : ([x0, x1, x2, x3, x4] : List PyData).length ≤ sizeLine := sl_ge (by simp)
theorem ln6 : ([x0, x1, x2, x3, x4, x5] : List PyData).length ≤ sizeLine := sl_ge (by simp)
theorem ln7 : ([x0, x1, x2, x3, x4, x5, x6] : List PyData).length ≤ sizeLine := sl_ge (by simp)
theorem ln8 : ([x0, x1, x2, x3, x4, x5, x6, x7] : List PyData).length ≤ sizeLine := sl_ge (by simp)
theorem ln9 : ([x0, x1, x2, x3, x4, x5, x6, x7, x8] : List PyData).length ≤ sizeLine := sl_ge (by simp)
theorem ln10 : ([x0, x1, x2, x3, x4, x5, x6, x7, x8, x9] : List PyData).length ≤ sizeLine := sl_ge (by simp)
theorem ln11 : ([x0, x1, x2, x3, x4, x5, x6, x7, x8, x9, x10] : List PyData).length ≤ sizeLine := sl_ge (by simp)
theorem ln12 : ([x0, x1, x2, x3, x4, x5, x6, x7, x8, x9, x10, x11] : List PyData).length ≤ sizeLine := sl_ge (by simp)
theorem ln13 : ([x0, x1, x2, x3, x4, x5, x6, x7, x8, x9, x10, x11, x12] : List PyData).length ≤ sizeLine := sl_ge (by simp)
theorem ln14 : ([x0, x1, x2, x3, x4, x5, x6, x7, x8, x9, x10, x11, x12, x13] : List PyData).length ≤ sizeLine := sl_ge (by simp)
theorem ln15 : ([x0, x1, x2, x3, x4, x5, x6, x7, x8, x9, x10, x11, x12, x13, x14] : List PyData).length ≤ sizeLine := sl_ge (by simp)
theorem ln16 : ([x0, x1, x2, x3, x4, x5, x6, x7, x8, x9, x10, x11, x12, x13, x14, x15] : List PyData).length ≤ sizeLine := sl_ge (by simp)
end
end Di
namespace Di
open PySem
/-! ## the pen that all laws draw with -/
def ir_pick_t : Ss :=
    (.cons (.asg (.n 4) (.bop .mod (.bop .pow (.bop .add (.bop .add (.bop .add (.bop .mod (.v 3) (.c (.int 2147483587))) (.bop .mul (.bop .mul (.c (.int 44027)) (.v 2)) (.v 2))) (.bop .mul (.c (.int 27011)) (.v 2))) (.c (.int 83))) (.c (.int 3))) (.c (.int 2147483629))))
    (.cons (.asg (.n 5) (.bop .mod (.bop .pow (.bop .add (.bop .mul (.v 4) (.bop .add (.bop .mul (.c (.int 2)) (.v 2)) (.c (.int 37)))) (.c (.int 60013))) (.c (.int 5))) (.c (.int 2147483563))))
    (.cons (.ret (.bop .mod (.bop .fdiv (.v 5) (.c (.int 64))) (.v 1)))
    .nil)))
def ir_pick : Ss :=
    (.cons (.ife (.cmp .gt (.ix (.v 0) (.c (.int 2))) (.c (.int 0))) (.cons (.asg (.n 6) (.bop .mod (.ix (.v 0) (.c (.int 2))) (.v 1)))
    (.cons (.six 0 (.c (.int 2)) (.bop .fdiv (.ix (.v 0) (.c (.int 2))) (.v 1)))
    (.cons (.ret (.v 6))
    .nil))) .nil)
    (.cons (.asg (.n 2) (.ix (.v 0) (.c (.int 1))))
    (.cons (.six 0 (.c (.int 1)) (.bop .add (.v 2) (.c (.int 1))))
    (.cons (.asg (.n 3) (.bop .add (.bop .mul (.c (.int 9601)) (.v 2)) (.c (.int 113))))
    (.cons (.ife (.cmp .ne (.ix (.v 0) (.c (.int 0))) (.lst .nil)) (.cons (.asg (.n 3) (.ix (.ix (.v 0) (.c (.int 0))) (.bop .mod (.v 2) (.blt .len (.cons (.ix (.v 0) (.c (.int 0))) .nil)))))
    .nil) .nil)
    (.cons (.ife (.and (.cmp .lt (.v 2) (.blt .len (.cons (.ix (.v 0) (.c (.int 0))) .nil))) (.cmp .ge (.blt .abs (.cons (.v 3) .nil)) (.bop .pow (.c (.int 10)) (.c (.int 18))))) (.cons (.asg (.n 7) (.bop .add (.bop .mul (.c (.int 2)) (.bop .sub (.blt .abs (.cons (.v 3) .nil)) (.bop .pow (.c (.int 10)) (.c (.int 18))))) (.blt .int (.cons (.cmp .lt (.v 3) (.c (.int 0))) .nil))))
    (.cons (.six 0 (.c (.int 2)) (.bop .fdiv (.v 7) (.v 1)))
    (.cons (.ret (.bop .mod (.v 7) (.v 1)))
    .nil))) .nil)
    ir_pick_t))))))
def f_pick : Fn := ⟨[true, false], fun ds => fnRun [] 8 ([true, false] ++ List.replicate 0 false) ir_pick (ds ++ [])⟩
def ir_pen : Ss := .cons (.ret (.lst (.cons (.blt .list (.cons (.sl (.v 0) .no (.e (.c (.int 63)))) .nil)) (.cons (.c (.int 0)) (.cons (.c (.int 0)) .nil))))) .nil
def f_pen : Fn := ⟨[false], fun ds => fnRun [] 1 ([false] ++ List.replicate 0 false) ir_pen (ds ++ [])⟩
theorem eqv_scr_nil {L : List Int} : PyData.eqv (scr L) (.list []) = decide (L = []) := by
  cases L <;> rfl
theorem pick_great (L : List Int) (a g u : Int) (hg : 0 < g) (hu : 0 < u) (hu2 : u < 1073741824) : f_pick.run [pen L a g, .int u] = .ok false (.int (g % u)) [pen L a (g / u)] := by
  show endF [true, false] (exs [] ir_pick [.rf (pen L a g), .sh (.int u), .un, .un, .un, .un, .un, .un]) = _
  simp only [↓ir_pick, ↓exs, ↓ex1, ↓ev, ↓evs, ↓evv, ↓R.bind, ↓lift, ↓slot_z, ↓slot_s, ↓pen, ↓res, ↓Sl.data, ↓copD, ↓cmpOk, ↓isK, ↓bopD, ↓ixD, ↓at0, ↓at1, ↓at2, ↓set3_1, ↓set3_2, ↓truD, ↓truOk, ↓tst, ↓mkV, ↓asgV, ↓setN_s, ↓setN_zu, ↓setN_zs, ↓setN_zo, ↓cap, ↓setO_z, ↓setO_s, ↓ownL, ↓chg_s, ↓chg_zo, ↓chg_zr, ↓retV, ↓endF, ↓outsE, Option.map, ↓isS, Bool.false_or, Bool.or_false, Bool.true_or, Bool.or_true, Bool.false_and, Bool.true_and, hg, hu, hu2, decide_true, and_self, ↓reduceIte]
theorem pick_tail (L : List Int) (a u c : Int) (h0 : 0 ≤ a) (ha : a ≤ 1000000) (hu : 0 < u) (hu2 : u < 1073741824) :
    ∃ v, endF [true, false] (exs [] ir_pick_t [.rf (pen L (a + 1) 0), .sh (.int u), .sh (.int a), .sh (.int c), .un, .un, .un, .un]) = .ok false (.int (v % u)) [pen L (a + 1) 0] := by
  have e1 := Int.emod_nonneg c (b := 2147483587) (by omega)
  have e2 := Int.emod_lt_of_pos c (b := 2147483587) (by omega)
  have q1 : a * a ≤ 1000000 * 1000000 := Int.mul_le_mul ha ha h0 (by omega)
  have q0 : 0 ≤ a * a := Int.mul_nonneg h0 h0
  have q2 : 44027 * a * a = 44027 * (a * a) := Int.mul_assoc _ _ _
  have p1 : (c % 2147483587 + 44027 * a * a + 27011 * a + 83).natAbs < 2 ^ 64 := by rw [q2]; omega
  have e3 : ∀ x : Int, 0 ≤ x % 2147483629 ∧ x % 2147483629 < 2147483629 := fun x => ⟨Int.emod_nonneg x (by omega), Int.emod_lt_of_pos x (by omega)⟩
  have p2 : ∀ x : Int, (x % 2147483629 * (2 * a + 37) + 60013).natAbs < 2 ^ 64 := fun x => by
    obtain ⟨x1, x2⟩ := e3 x
    have y1 : x % 2147483629 * (2 * a + 37) ≤ 2147483629 * 2000037 := Int.mul_le_mul (by omega) (by omega) (by omega) (by omega)
    have y2 : 0 ≤ x % 2147483629 * (2 * a + 37) := Int.mul_nonneg x1 (by omega)
    omega
  have p3 : (2 * a + 37).natAbs < 2 ^ 64 := by omega
  have p4 : a.natAbs < 2 ^ 64 := by omega
  have c1 : (0 : Int) < 2147483587 := by omega
  have c2 : (0 : Int) < 2147483629 := by omega
  have c3 : (0 : Int) < 2147483563 := by omega
  have c4 : (0 : Int) < 64 ∧ (64 : Int) < 1073741824 := by omega
  have c5 : (0 : Int) ≤ 3 ∧ (3 : Int) ≤ 1000000 := by omega
  have c6 : (0 : Int) ≤ 5 ∧ (5 : Int) ≤ 1000000 := by omega
  simp only [↓ir_pick, ↓ir_pick_t, ↓exs, ↓ex1, ↓ev, ↓evs, ↓evv, ↓R.bind, ↓lift, ↓slot_z, ↓slot_s, ↓pen, ↓res, ↓Sl.data, ↓copD, ↓cmpOk, ↓isK, ↓bopD, ↓ixD, ↓at0, ↓at1, ↓at2, ↓set3_1, ↓set3_2, ↓truD, ↓truOk, ↓tst, ↓mkV, ↓asgV, ↓setN_s, ↓setN_zu, ↓setN_zs, ↓setN_zo, ↓cap, ↓setO_z, ↓setO_s, ↓ownL, ↓chg_s, ↓chg_zo, ↓chg_zr, ↓retV, ↓endF, ↓outsE, Option.map, ↓isS, Bool.false_or, Bool.or_false, Bool.true_or, Bool.or_true, Bool.false_and, Bool.true_and, p1, p2, p3, p4, c1, c2, c3, c4, c5, c6, hu, hu2, true_or, or_true, decide_true, and_self, ↓reduceIte]
  exact ⟨_, rfl⟩
theorem shaped_ints : ∀ L : List Int, SeqAt.shaped (.list (L.map .int)) = true := by
  have h1 : ∀ L : List Int, PyData.canLayAll0 (L.map .int) = true := fun L => by
    induction L with
    | nil => rfl
    | cons x xs ih => simpa [PyData.canLayAll0, PyData.canLay0] using ih
  have h2 : ∀ L : List Int, PyData.depthAll (L.map .int) ≤ 1 := fun L => by
    induction L with
    | nil => simp [PyData.depthAll]
    | cons x xs ih => simp only [List.map_cons, PyData.depthAll, PyData.depth]; exact Nat.max_le.mpr ⟨by omega, ih⟩
  intro L
  have h3 := h2 L
  simp only [SeqAt.shaped, PyData.canLay0, PyData.depth, Bool.and_eq_true, decide_eq_true_eq]
  refine ⟨h1 L, ?_⟩
  exact decide_eq_true (show PyData.depthAll (L.map .int) + 1 ≤ 64 by omega)
theorem at_ints {L : List Int} {i : Int} (h0 : 0 ≤ i) (h : i < L.length) : ∃ c, L2.atI (L.map PyData.int) i = some (.int c) := by
  obtain ⟨n, rfl⟩ := Int.eq_ofNat_of_zero_le h0
  have hn : n < L.length := by omega
  refine ⟨L[n], ?_⟩
  have e : L2.atI (L.map PyData.int) ((n : Nat) : Int) = _ := at_nat
  rw [e, List.getElem?_map, List.getElem?_eq_getElem hn]; rfl
theorem mapM1 {α β : Type} {f : α → Option β} {x : α} : [x].mapM f = match f x with | some d => some [d] | none => none := by
  rw [List.mapM_cons, List.mapM_nil]
  cases f x <;> rfl
theorem mapM2 {α β : Type} {f : α → Option β} {x y : α} : [x, y].mapM f = match f x with | some d => (match f y with | some e => some [d, e] | none => none) | none => none := by
  rw [List.mapM_cons, mapM1]
  cases f x with
  | none => rfl
  | some d => cases f y <;> rfl
theorem pick_ok (L : List Int) (a g u : Int) (h0 : 0 ≤ a) (ha : a ≤ 1000000) (hg : 0 ≤ g) (hu : 0 < u) (hu2 : u < 1073741824) :
    ∃ v a' g', f_pick.run [pen L a g, .int u] = .ok false (.int v) [pen L a' g'] ∧ 0 ≤ v ∧ v < u ∧ a ≤ a' ∧ a' ≤ a + 1 ∧ 0 ≤ g' := by
  by_cases hg0 : 0 < g
  · exact ⟨_, _, _, pick_great L a g u hg0 hu hu2, Int.emod_nonneg _ (by omega), Int.emod_lt_of_pos _ hu, Int.le_refl _, by omega, Int.ediv_nonneg hg (by omega)⟩
  · have eg : g = 0 := by omega
    subst eg
    have fin : ∀ c, (∃ v, endF [true, false] (exs [] ir_pick_t [.rf (pen L (a + 1) 0), .sh (.int u), .sh (.int a), .sh (.int c), .un, .un, .un, .un]) = .ok false (.int (v % u)) [pen L (a + 1) 0]) := fun c => pick_tail L a u c h0 ha hu hu2
    have run0 : f_pick.run [pen L a 0, .int u] = endF [true, false] (exs [] ir_pick [.rf (pen L a 0), .sh (.int u), .un, .un, .un, .un, .un, .un]) := rfl
    have done : ∀ {v : Int}, endF [true, false] (exs [] ir_pick [.rf (pen L a 0), .sh (.int u), .un, .un, .un, .un, .un, .un]) = .ok false (.int (v % u)) [pen L (a + 1) 0] → ∃ v a' g', f_pick.run [pen L a 0, .int u] = .ok false (.int v) [pen L a' g'] ∧ 0 ≤ v ∧ v < u ∧ a ≤ a' ∧ a' ≤ a + 1 ∧ 0 ≤ g' := fun {v} e =>
      ⟨_, _, _, run0.trans e, Int.emod_nonneg _ (by omega), Int.emod_lt_of_pos _ hu, by omega, by omega, by omega⟩
    have p4 : a.natAbs < 2 ^ 64 := by omega
    have n0 : ¬ (0 : Int) < 0 := by omega
    have sh0 : SeqAt.shaped (.list []) = true := shaped_ints []
    have c7 : (0 : Int) ≤ 18 ∧ (18 : Int) ≤ 1000000 ∧ (10 : Int).natAbs < 2 ^ 64 := by decide
    have m2 : (2 : Int).natAbs < 2 ^ 64 := by decide
    cases L with
    | nil =>
      obtain ⟨v, e⟩ := fin (9601 * a + 113)
      refine done (v := v) ?_
      have n1 : ¬ a < ((([] : List PyData).length : Nat) : Int) := by simp; omega
      have eq0 : PyData.eqv (.list []) (.list []) = true := rfl
      rw [← e]
      simp only [↓ir_pick, ↓exs, ↓ex1, ↓ev, ↓evs, ↓evv, ↓R.bind, ↓lift, ↓slot_z, ↓slot_s, ↓pen, ↓res, ↓Sl.data, ↓copD, ↓cmpOk, ↓isK, ↓bopD, ↓ixD, ↓at0, ↓at1, ↓at2, ↓set3_1, ↓set3_2, ↓truD, ↓truOk, ↓tst, ↓mkV, ↓asgV, ↓setN_s, ↓setN_zu, ↓setN_zs, ↓setN_zo, ↓cap, ↓setO_z, ↓setO_s, ↓ownL, ↓chg_s, ↓chg_zo, ↓chg_zr, ↓retV, ↓endF, ↓outsE, ↓mapM1, ↓mapM2, ↓bltD, ↓ln0, ↓ln1, ↓ln2, ↓ln3, ↓ln4, ↓ln5, ↓ln6, ↓ln7, ↓ln8, ↓ln9, ↓ln10, ↓ln11, ↓ln12, ↓ln13, ↓ln14, ↓ln15, ↓ln16, Option.map, ↓isS, Bool.false_or, Bool.or_false, Bool.true_or, Bool.or_true, Bool.false_and, Bool.true_and, true_or, or_true, decide_true, decide_false, Bool.false_eq_true, and_self, Bool.not_true, Bool.not_false, Bool.and_self, ↓reduceIte, sh0, eq0, scr, List.map_nil, p4, n0, n1, hu, hu2]
    | cons x xs =>
      have shx := shaped_ints (x :: xs)
      have eqx : PyData.eqv (.list ((x :: xs).map .int)) (.list []) = false := rfl
      have len : ((((x :: xs).map PyData.int).length : Nat) : Int) = ((x :: xs).length : Int) := by rw [List.length_map]
      have lp : (0 : Int) < ((x :: xs).length : Int) := by rw [List.length_cons]; omega
      obtain ⟨c, hc⟩ := at_ints (L := x :: xs) (i := a % ((x :: xs).length : Int)) (Int.emod_nonneg _ (by omega)) (Int.emod_lt_of_pos _ lp)
      by_cases hl : a < ((x :: xs).length : Int)
      · by_cases hb : (10 : Int) ^ (Int.toNat 18) ≤ (if c < 0 then -c else c)
        · have g0 : 0 ≤ 2 * ((if c < 0 then -c else c) - 10 ^ (Int.toNat 18)) + (if decide (c < 0) = true then 1 else 0) := by
            have : (0 : Int) ≤ if decide (c < 0) = true then 1 else 0 := by split <;> omega
            omega
          refine ⟨(2 * ((if c < 0 then -c else c) - 10 ^ (Int.toNat 18)) + (if decide (c < 0) = true then 1 else 0)) % u, a + 1, (2 * ((if c < 0 then -c else c) - 10 ^ (Int.toNat 18)) + (if decide (c < 0) = true then 1 else 0)) / u, run0.trans ?_, Int.emod_nonneg _ (by omega), Int.emod_lt_of_pos _ hu, by omega, by omega, Int.ediv_nonneg g0 (by omega)⟩
          simp only [↓ir_pick, ↓exs, ↓ex1, ↓ev, ↓evs, ↓evv, ↓R.bind, ↓lift, ↓slot_z, ↓slot_s, ↓pen, ↓res, ↓Sl.data, ↓copD, ↓cmpOk, ↓isK, ↓bopD, ↓ixD, ↓at0, ↓at1, ↓at2, ↓set3_1, ↓set3_2, ↓truD, ↓truOk, ↓tst, ↓mkV, ↓asgV, ↓setN_s, ↓setN_zu, ↓setN_zs, ↓setN_zo, ↓cap, ↓setO_z, ↓setO_s, ↓ownL, ↓chg_s, ↓chg_zo, ↓chg_zr, ↓retV, ↓endF, ↓outsE, ↓mapM1, ↓mapM2, ↓bltD, ↓ln0, ↓ln1, ↓ln2, ↓ln3, ↓ln4, ↓ln5, ↓ln6, ↓ln7, ↓ln8, ↓ln9, ↓ln10, ↓ln11, ↓ln12, ↓ln13, ↓ln14, ↓ln15, ↓ln16, Option.map, ↓isS, Bool.false_or, Bool.or_false, Bool.true_or, Bool.or_true, Bool.false_and, Bool.true_and, true_or, or_true, decide_true, decide_false, Bool.false_eq_true, and_self, Bool.not_true, Bool.not_false, Bool.and_self, ↓reduceIte, sh0, shx, eqx, len, lp, hc, hl, hb, c7, m2, scr, p4, n0, hu, hu2]
        · obtain ⟨v, e⟩ := fin c
          refine done (v := v) ?_
          rw [← e]
          simp only [↓ir_pick, ↓exs, ↓ex1, ↓ev, ↓evs, ↓evv, ↓R.bind, ↓lift, ↓slot_z, ↓slot_s, ↓pen, ↓res, ↓Sl.data, ↓copD, ↓cmpOk, ↓isK, ↓bopD, ↓ixD, ↓at0, ↓at1, ↓at2, ↓set3_1, ↓set3_2, ↓truD, ↓truOk, ↓tst, ↓mkV, ↓asgV, ↓setN_s, ↓setN_zu, ↓setN_zs, ↓setN_zo, ↓cap, ↓setO_z, ↓setO_s, ↓ownL, ↓chg_s, ↓chg_zo, ↓chg_zr, ↓retV, ↓endF, ↓outsE, ↓mapM1, ↓mapM2, ↓bltD, ↓ln0, ↓ln1, ↓ln2, ↓ln3, ↓ln4, ↓ln5, ↓ln6, ↓ln7, ↓ln8, ↓ln9, ↓ln10, ↓ln11, ↓ln12, ↓ln13, ↓ln14, ↓ln15, ↓ln16, Option.map, ↓isS, Bool.false_or, Bool.or_false, Bool.true_or, Bool.or_true, Bool.false_and, Bool.true_and, true_or, or_true, decide_true, decide_false, Bool.false_eq_true, and_self, Bool.not_true, Bool.not_false, Bool.and_self, ↓reduceIte, sh0, shx, eqx, len, lp, hc, hl, hb, c7, scr, p4, n0, hu, hu2]
      · obtain ⟨v, e⟩ := fin c
        refine done (v := v) ?_
        rw [← e]
        simp only [↓ir_pick, ↓exs, ↓ex1, ↓ev, ↓evs, ↓evv, ↓R.bind, ↓lift, ↓slot_z, ↓slot_s, ↓pen, ↓res, ↓Sl.data, ↓copD, ↓cmpOk, ↓isK, ↓bopD, ↓ixD, ↓at0, ↓at1, ↓at2, ↓set3_1, ↓set3_2, ↓truD, ↓truOk, ↓tst, ↓mkV, ↓asgV, ↓setN_s, ↓setN_zu, ↓setN_zs, ↓setN_zo, ↓cap, ↓setO_z, ↓setO_s, ↓ownL, ↓chg_s, ↓chg_zo, ↓chg_zr, ↓retV, ↓endF, ↓outsE, ↓mapM1, ↓mapM2, ↓bltD, ↓ln0, ↓ln1, ↓ln2, ↓ln3, ↓ln4, ↓ln5, ↓ln6, ↓ln7, ↓ln8, ↓ln9, ↓ln10, ↓ln11, ↓ln12, ↓ln13, ↓ln14, ↓ln15, ↓ln16, Option.map, ↓isS, Bool.false_or, Bool.or_false, Bool.true_or, Bool.or_true, Bool.false_and, Bool.true_and, true_or, or_true, decide_true, decide_false, Bool.false_eq_true, and_self, Bool.not_true, Bool.not_false, Bool.and_self, ↓reduceIte, sh0, shx, eqx, len, lp, hc, hl, scr, p4, n0, hu, hu2]
end Di
namespace Di
open PySem
/-! ## turns -/
theorem lcGo_pure {t : Tg} {co : En → R Bool} {elt : En → R Vl} {rw : En} {p : PyData → Bool} {f : PyData → PyData} : ∀ {xs acc : List PyData}, (∀ x ∈ xs, ∃ r1, asgT t x rw = some r1 ∧ co r1 = .ok (p x) r1 ∧ (p x = true → elt r1 = .ok (.d (f x)) r1) ∧ wipeE r1 t.slots = some rw) → acc.length + xs.length ≤ sizeLine →
    lcGo t co elt xs rw acc = .ok (acc ++ (xs.filter p).map f) rw
  | [], acc, _, _ => by simp [lcGo]
  | x :: xs, acc, h, hl => by
    obtain ⟨r1, h1, h2, h3, h4⟩ := h x List.mem_cons_self
    have ih := fun acc' (hl' : acc'.length + xs.length ≤ sizeLine) => lcGo_pure (t := t) (co := co) (elt := elt) (rw := rw) (p := p) (f := f) (xs := xs) (acc := acc') (fun y hy => h y (List.mem_cons_of_mem _ hy)) hl'
    rw [List.length_cons] at hl
    unfold lcGo
    rw [h1]
    simp only [lift_some, R.bind_ok, h2]
    cases q : p x with
    | true =>
      rw [if_pos rfl, h3 q]
      simp only [R.bind_ok, cap]
      rw [if_pos (by omega), h4]
      simp only [lift_some, R.bind_ok]
      rw [ih _ (by rw [List.length_append]; simp; omega), List.filter_cons_of_pos q]
      simp
    | false =>
      rw [if_neg (by decide), h4]
      simp only [lift_some, R.bind_ok]
      rw [ih _ (by omega), List.filter_cons_of_neg (by rw [q]; decide)]
theorem wipe1 {r : En} {i : Nat} : wipeE r [i] = match slot r i with
    | .ow _ => none
    | .rf _ => none
    | _ => some (r.set i .un) := rfl
theorem filter_tt {xs : List PyData} : xs.filter (fun _ => true) = xs := by induction xs with
  | nil => rfl
  | cons x xs ih => rw [List.filter_cons_of_pos rfl, ih]
theorem bls_map : ∀ {α : Type} (f : α → Bool) (xs : List α), bls (xs.map fun x => .bool (f x)) = some (xs.map f)
  | _, _, [] => rfl
  | _, f, x :: xs => by simp only [List.map_cons, bls, bls_map f xs]; rfl
/-! ## data that may be shown and compared -/
structure Gd (k m : Nat) (d : PyData) : Prop where
  lay : d.canLay0 = true
  sho : d.showable = true
  sml : d.leavesShort 1921 = true
  dep : d.depth ≤ k
  blk : d.bulk ≤ m
theorem Gd.mono {k m k' m' : Nat} {d : PyData} (h : Gd k m d) (hk : k ≤ k') (hm : m ≤ m') : Gd k' m' d := ⟨h.lay, h.sho, h.sml, Nat.le_trans h.dep hk, Nat.le_trans h.blk hm⟩
theorem Gd.rp {k m : Nat} {d : PyData} (h : Gd k m d) (hk : k ≤ 60) (hm : m ≤ 8000) : rpOk d = true := by
  have l := PyData.shown_le_bulk 1921 (by decide) d h.sml
  have b := h.blk
  have s : d.shown.length ≤ sizeLine := by
    have : (sizeLine : Nat) = 16777216 := by decide
    omega
  unfold rpOk
  rw [h.sho, PyData.hasDict_of_canLay d h.lay]
  simp only [Bool.true_and, Bool.and_eq_true, decide_eq_true_eq, Bool.not_false, Bool.true_or, and_true]
  exact ⟨Nat.le_trans h.dep hk, s⟩
theorem Gd.shaped {k m : Nat} {d : PyData} (h : Gd k m d) (hk : k ≤ 64) : SeqAt.shaped d = true := by
  unfold SeqAt.shaped
  rw [h.lay]
  simp only [Bool.true_and, decide_eq_true_eq]
  exact Nat.le_trans h.dep hk
theorem Gd.none {k m : Nat} : Gd k m .none := ⟨rfl, rfl, rfl, Nat.zero_le _, Nat.zero_le _⟩
theorem Gd.bool {k m : Nat} (b : Bool) : Gd k m (.bool b) := ⟨rfl, rfl, rfl, Nat.zero_le _, Nat.zero_le _⟩
theorem Gd.int {k m : Nat} {i : Int} (h : i.natAbs.log2 < 1920) : Gd k m (.int i) := ⟨rfl, decide_eq_true h, by
  simp only [PyData.leavesShort, decide_eq_true_eq]
  exact PyProof.Rows.int_text_len_1921 h, Nat.zero_le _, Nat.zero_le _⟩
theorem log2_lt {i : Int} (h : i.natAbs < 2 ^ 1900) : i.natAbs.log2 < 1920 := by
  by_cases z : i.natAbs = 0
  · rw [z]; decide
  · have := (Nat.log2_lt z).mpr h
    omega
theorem Gd.int' {k m : Nat} {i : Int} (h : i.natAbs < 2 ^ 1900) : Gd k m (.int i) := Gd.int (log2_lt h)
theorem gd_all {k m : Nat} : ∀ {xs : List PyData}, (∀ x ∈ xs, Gd k m x) → PyData.canLayAll0 xs = true ∧ PyData.showableAll xs = true ∧ PyData.leavesShortAll 1921 xs = true ∧ PyData.depthAll xs ≤ k ∧ PyData.bulkAll xs ≤ xs.length * (m + 1)
  | [], _ => ⟨rfl, rfl, rfl, Nat.zero_le _, Nat.zero_le _⟩
  | x :: xs, h => by
    obtain ⟨a, b, c, d, e⟩ := gd_all (xs := xs) fun y hy => h y (List.mem_cons_of_mem _ hy)
    have g := h x List.mem_cons_self
    refine ⟨by rw [PyData.canLayAll0, g.lay, a]; rfl, by rw [PyData.showableAll, g.sho, b]; rfl, by rw [PyData.leavesShortAll, g.sml, c]; rfl, ?_, ?_⟩
    · rw [PyData.depthAll]; exact Nat.max_le.mpr ⟨g.dep, d⟩
    · rw [PyData.bulkAll, List.length_cons, Nat.add_mul, Nat.one_mul]
      have := g.blk
      omega
theorem Gd.tup {k m : Nat} {xs : List PyData} (h : ∀ x ∈ xs, Gd k m x) : Gd (k + 1) (xs.length * (m + 1)) (.tuple xs) := by
  obtain ⟨a, b, c, d, e⟩ := gd_all h
  exact ⟨by rw [PyData.canLay0]; exact a, by rw [PyData.showable]; exact b, by rw [PyData.leavesShort]; exact c, by rw [PyData.depth]; omega, by rw [PyData.bulk]; exact e⟩
theorem Gd.lst {k m : Nat} {xs : List PyData} (h : ∀ x ∈ xs, Gd k m x) : Gd (k + 1) (xs.length * (m + 1)) (.list xs) := by
  obtain ⟨a, b, c, d, e⟩ := gd_all h
  exact ⟨by rw [PyData.canLay0]; exact a, by rw [PyData.showable]; exact b, by rw [PyData.leavesShort]; exact c, by rw [PyData.depth]; omega, by rw [PyData.bulk]; exact e⟩
theorem Gd.str {k : Nat} {x : Str} (h : ∀ c ∈ x.cps.toList, c < 128) : Gd k x.cps.size (.str x) := by
  have h2 : ∀ c ∈ x.cps.toList, c < 16 ^ 8 := fun c hc => Nat.lt_trans (h c hc) (by decide)
  refine ⟨?_, rfl, by simpa only [PyData.leavesShort, List.all_eq_true, decide_eq_true_eq] using h2, Nat.zero_le _, Nat.le_refl _⟩
  rw [PyData.canLay0]
  unfold PyData.strOk
  rw [← Array.all_toList, List.all_eq_true]
  exact fun c hc => decide_eq_true (Nat.lt_trans (h c hc) (by decide))
theorem Gd.num {k : Nat} {i : Int} (h : i.natAbs.log2 < 1920) : Gd k 1921 (.str (Str.ofString (toString i))) := by
  refine (Gd.str fun c hc => ?_).mono (Nat.le_refl _) ?_
  · rw [Str.ofString_eq_toList] at hc
    simp only [List.mem_map] at hc
    obtain ⟨ch, h1, h2⟩ := hc
    rw [← h2]
    exact int_ascii i ch h1
  · exact PyProof.Rows.int_text_len_1921 h
theorem eqv_nil {xs : List PyData} : PyData.eqv (.list xs) (.list []) = xs.isEmpty := by cases xs <;> rfl
theorem eqv_str {a b : Str} : PyData.eqv (.str a) (.str b) = (a == b) := rfl
end Di
/-! Running terms of the small language: what is wanted behind each piece, from the head on. -/
namespace Di
open PySem
/-- these stand only so that what follows is not looked into ahead of its turn -/
inductive Dum {α : Type} (Q : α → En → Prop) (X : Xn → En → Prop) : Type | mk
inductive Dum1 {α : Type} (a : R α) : Type | mk
inductive Dum2 {α : Type} (a b : R α) : Type | mk
def Wz {α : Type} (m : R α) (Q : α → En → Prop) (X : Xn → En → Prop) : Prop := match m with
  | .st => False
  | .ok a r => Q a r
  | .ex e r => X e r
structure Wp {α : Type} (m : R α) (Q : α → En → Prop) (X : Xn → En → Prop) (_u : Dum Q X := .mk) : Prop where
  out : Wz m Q X
def chk {α : Type} (c : Bool) (m : R α) (_u : Dum1 m := .mk) : R α := if c then m else .st
def sel {α : Type} (c : Bool) (a b : R α) (_u : Dum2 a b := .mk) : R α := if c then a else b
section
variable {α β : Type} {a : α} {r : En} {Q : α → En → Prop} {Q2 : β → En → Prop} {X : Xn → En → Prop} {m m2 : R α} {k : α → En → R β} {c : Bool} {u : Dum Q X} {u1 : Dum1 m} {u2 : Dum2 m m2}
theorem Wp_eq : Wp m Q X u = Wz m Q X := propext ⟨fun h => h.out, fun h => ⟨h⟩⟩
theorem chk_eq : chk c m u1 = if c then m else .st := rfl
theorem sel_eq : sel c m m2 u2 = if c then m else m2 := rfl
theorem zb : Wz (m.bind k) Q2 X = Wz m (fun a r => Wz (k a r) Q2 X) X := by cases m <;> rfl
theorem zo : Wz (.ok a r) Q X = Q a r := rfl
theorem zs : Wz (lift (some a) r) Q X = Q a r := rfl
end
section
variable {α β : Type} {a : α} {r : En} {Q : α → En → Prop} {Q2 : β → En → Prop} {X : Xn → En → Prop} {m m2 : R α} {k : α → En → R β} {c : Bool}
theorem wp_ok : Wp (.ok a r) Q X = Q a r := by rw [Wp_eq]; rfl
theorem wp_ex {e : Xn} : Wp (.ex e r) Q X = X e r := by rw [Wp_eq]; rfl
theorem wp_bind : Wp (m.bind k) Q2 X = Wp m (fun a r => Wp (k a r) Q2 X) X := by simp only [Wp_eq, zb]
theorem wp_some : Wp (lift (some a) r) Q X = Q a r := by rw [Wp_eq]; rfl
theorem wp_none : Wp (lift none r) Q X = False := by rw [Wp_eq]; rfl
theorem wp_st : Wp .st Q X = False := by rw [Wp_eq]; rfl
theorem wp_chkt : Wp (chk true m) Q X = Wp m Q X := rfl
theorem wp_selt : Wp (sel true m m2) Q X = Wp m Q X := rfl
theorem wp_self : Wp (sel false m m2) Q X = Wp m2 Q X := rfl
theorem Wp.chk (h : c = true) (w : Wp m Q X) : Wp (Di.chk c m) Q X := by subst h; exact w
theorem Wp.chkd {p : Prop} {inst : Decidable p} (h : p) (w : Wp m Q X) : Wp (Di.chk (decide p) m) Q X := Wp.chk (decide_eq_true h) w
theorem Wp.sel (h1 : c = true → Wp m Q X) (h2 : c = false → Wp m2 Q X) : Wp (Di.sel c m m2) Q X := by
  cases c
  · exact h2 rfl
  · exact h1 rfl
theorem Wp.lift {o : Option α} (h : o = some a) (w : Q a r) : Wp (Di.lift o r) Q X := by subst h; rw [wp_some]; exact w
theorem Wp.mono {Q' : α → En → Prop} {X' : Xn → En → Prop} (h : Wp m Q X) (q : ∀ a r, Q a r → Q' a r) (x : ∀ e r, X e r → X' e r) : Wp m Q' X' := by
  have h := h.out
  refine ⟨?_⟩
  cases m with
  | st => exact h
  | ok a r => exact q _ _ h
  | ex e r => exact x _ _ h
theorem lift_if {p : Prop} [Decidable p] {x : α} : Wp (lift (if p then some x else none) r) Q X = Wp (chk (decide p) (.ok x r)) Q X := by
  by_cases h : p
  · rw [if_pos h, decide_eq_true h, wp_some, wp_chkt, wp_ok]
  · rw [if_neg h, decide_eq_false h]; rfl
theorem lift_map {γ : Type} {o : Option γ} {f : γ → α} : Wp (lift (o.map f) r) Q X = Wp (lift o r) (fun a r => Q (f a) r) X := by rw [Wp_eq, Wp_eq]; cases o <;> rfl
end

/-! ## functions -/
def Sp (m : Fr) (Q : Bool → PyData → List PyData → Prop) (X : Xn → List PyData → Prop) : Prop := match m with
  | .st => False
  | .ok fr d o => Q fr d o
  | .ex e o => X e o
theorem Sp.eq {m : Fr} {fr : Bool} {d : PyData} {o : List PyData} (h : Sp m (fun f x y => f = fr ∧ x = d ∧ y = o) fun _ _ => False) : m = .ok fr d o := by
  cases m with
  | st => exact h.elim
  | ok f x y => obtain ⟨rfl, rfl, rfl⟩ := h; rfl
  | ex e o => exact h.elim
theorem Sp.mono {m : Fr} {Q Q' : Bool → PyData → List PyData → Prop} {X X' : Xn → List PyData → Prop} (h : Sp m Q X) (q : ∀ f d o, Q f d o → Q' f d o) (x : ∀ e o, X e o → X' e o) : Sp m Q' X' := by
  cases m with
  | st => exact h
  | ok f d o => exact q _ _ _ h
  | ex e o => exact x _ _ h
theorem Sp.of_eq {m : Fr} {fr : Bool} {d : PyData} {o : List PyData} {Q : Bool → PyData → List PyData → Prop} {X : Xn → List PyData → Prop} (e : m = .ok fr d o) (h : Q fr d o) : Sp m Q X := by subst e; exact h
theorem sp_run {tb : List Fn} {n : Nat} {md : List Bool} {b : Ss} {ds : List PyData} {Q : Bool → PyData → List PyData → Prop} {X : Xn → List PyData → Prop} (h : (decide (ds.length = md.length) && decide (md.length ≤ n)) = true)
    (w : Wp (exs tb b (initE n md ds)) (fun f r => match f with
      | .rt fr d => Wp (lift (outsE md r) r) (fun o _ => Q fr d o) fun _ _ => False
      | .nx => Wp (lift (outsE md r) r) (fun o _ => Q false .none o) fun _ _ => False
      | _ => False) (fun e r => Wp (lift (outsE md r) r) (fun o _ => X e o) fun _ _ => False)) : Sp (fnRun tb n md b ds) Q X := by
  simp only [Bool.and_eq_true, decide_eq_true_eq] at h
  unfold fnRun
  rw [if_pos h]
  cases q : exs tb b (initE n md ds) with
  | st => rw [q] at w; exact w.out.elim
  | ok f r =>
    rw [q] at w
    cases f with
    | nx =>
      simp only [Wp_eq, Wz, endF] at w ⊢
      cases z : outsE md r with
      | none => rw [z] at w; exact w.elim
      | some o => rw [z] at w; exact w
    | bk => exact w.out.elim
    | ct => exact w.out.elim
    | rt fr d =>
      simp only [Wp_eq, Wz, endF] at w ⊢
      cases z : outsE md r with
      | none => rw [z] at w; exact w.elim
      | some o => rw [z] at w; exact w
  | ex e r =>
    rw [q] at w
    simp only [Wp_eq, Wz, endF] at w ⊢
    cases z : outsE md r with
    | none => rw [z] at w; exact w.elim
    | some o => rw [z] at w; exact w
/-- what a function gives back, as the caller goes on -/
def Wb (r : En) (is : List Nat) (f : Fr) : R Vl := back r is f
theorem Wp.call {r : En} {is : List Nat} {m : Fr} {Q : Vl → En → Prop} {X : Xn → En → Prop} {P : Bool → PyData → List PyData → Prop} {Y : Xn → List PyData → Prop} (h : Sp m P Y)
    (k : ∀ fr d o, P fr d o → Wp (Di.lift (puts r is o) r) (fun r' _ => Q (if fr then .f d else .d d) r') X)
    (x : ∀ e o, Y e o → Wp (Di.lift (puts r is o) r) (fun r' _ => X e r') X) : Wp (Wb r is m) Q X := by
  unfold Wb
  cases m with
  | st => exact h.elim
  | ok fr d o =>
    have z := k fr d o h
    simp only [back]
    cases q : puts r is o with
    | none => rw [q] at z; exact z.out.elim
    | some r' => rw [q, wp_some] at z; first | (rw [wp_ok]; exact z) | (rw [wp_ex]; exact z)
  | ex e o =>
    have z := x e o h
    simp only [back]
    cases q : puts r is o with
    | none => rw [q] at z; exact z.out.elim
    | some r' => rw [q, wp_some] at z; first | (rw [wp_ok]; exact z) | (rw [wp_ex]; exact z)
theorem Wp.calle {r : En} {is : List Nat} {m : Fr} {Q : Vl → En → Prop} {X : Xn → En → Prop} {fr : Bool} {d : PyData} {o : List PyData} (h : m = .ok fr d o)
    (k : Wp (Di.lift (puts r is o) r) (fun r' _ => Q (if fr then .f d else .d d) r') X) : Wp (Wb r is m) Q X := by
  subst h
  exact Wp.call (P := fun f x y => f = fr ∧ x = d ∧ y = o) (Y := fun _ _ => False) ⟨rfl, rfl, rfl⟩ (fun f x y h => by obtain ⟨rfl, rfl, rfl⟩ := h; exact k) fun _ _ h => h.elim

theorem ite_tt_ {α : Type} {a b : α} : (if true = true then a else b) = a := rfl
/-! ## the terms -/
section
variable {tb : List Fn} {r : En} {Q : Vl → En → Prop} {X : Xn → En → Prop}
theorem w_c {d : PyData} : Wp (ev tb (.c d) r) Q X = Q (.d d) r := by simp only [Wp_eq, sel_eq, chk_eq, ev, zo]
def slV (i : Nat) : Sl → R Unit → Option Vl
  | .sh d, _ => some (.d d)
  | .ow _, _ => some (.o i)
  | .rf _, _ => some (.o i)
  | .un, _ => none
def vV (s : Sl) (i : Nat) : Option Vl := match s with
  | .sh d => some (.d d)
  | .ow _ => some (.o i)
  | .rf _ => some (.o i)
  | .un => none
theorem vV_sh {d : PyData} {i : Nat} : vV (.sh d) i = some (.d d) := rfl
theorem vV_ow {d : PyData} {i : Nat} : vV (.ow d) i = some (.o i) := rfl
theorem vV_rf {d : PyData} {i : Nat} : vV (.rf d) i = some (.o i) := rfl
theorem w_v {i : Nat} : Wp (ev tb (.v i) r) Q X = Wp (lift (vV (slot r i) i) r) Q X := by
  simp only [Wp_eq, sel_eq, chk_eq, ev]
  cases slot r i <;> rfl
theorem w_gc {x : Str} {d : PyData} : Wp (ev tb (.gc x d) r) Q X = Q (.d d) r := by simp only [Wp_eq, sel_eq, chk_eq, ev, zo]
theorem w_kdx {x : Str} {ks : List (PyData × PyData)} {i : E} : Wp (ev tb (.kdx x ks i) r) Q X = Wp (ev tb i r) (fun y r => Wp (lift (res r y) r) (fun y r => match y with
    | .str z => Wp (lift (kdGet ks z) r) (fun d r => Q (.d d) r) X
    | _ => False) X) X := by
  simp only [Wp_eq, sel_eq, chk_eq, ev, zb]
  congr; funext y r; congr; funext y r
  cases y <;> simp only [Wp_eq, sel_eq, chk_eq, zb, zo] <;> rfl
theorem w_bop {o : Bop} {a b : E} : Wp (ev tb (.bop o a b) r) Q X = Wp (ev tb a r) (fun x r => Wp (ev tb b r) (fun y r => Wp (lift (res r x) r) (fun x r => Wp (lift (res r y) r) (fun y r => Wp (lift (bopD o x y) r) (fun z r => Q (mkV z) r) X) X) X) X) X := by simp only [Wp_eq, sel_eq, chk_eq, ev, zb, zo]
theorem w_rep {a b : E} : Wp (ev tb (.rep a b) r) Q X = Wp (ev tb a r) (fun x r => Wp (ev tb b r) (fun y r => match x with
    | .f (.list xs) => Wp (lift (res r y) r) (fun y r => match y with
      | .int j => Wp (chk (decide (-(2 ^ 63) ≤ j ∧ j < 2 ^ 63 ∧ xs.length * j.toNat ≤ sizeLine)) (.ok (.f (.list (List.replicate j.toNat xs).flatten)) r)) Q X
      | _ => False) X
    | _ => False) X) X := by
  simp only [Wp_eq, sel_eq, chk_eq, ev, zb]
  congr; funext x r; congr; funext y r
  cases x with
  | d d => rfl
  | o i => rfl
  | f d =>
    cases d <;> try rfl
    simp only [Wp_eq, sel_eq, chk_eq, zb]
    congr; funext y r
    cases y <;> try rfl
    simp only [Wp_eq, sel_eq, chk_eq, chk_eq, decide_eq_true_eq]
theorem w_neg {a : E} : Wp (ev tb (.neg a) r) Q X = Wp (ev tb a r) (fun x r => Wp (lift (res r x) r) (fun x r => match x with
    | .int i => Q (.d (.int (-i))) r
    | _ => False) X) X := by
  simp only [Wp_eq, sel_eq, chk_eq, ev, zb]
  congr; funext x r; congr; funext x r
  cases x <;> rfl
theorem w_cmp {o : Cop} {a b : E} : Wp (ev tb (.cmp o a b) r) Q X = Wp (ev tb a r) (fun x r => Wp (ev tb b r) (fun y r => Wp (lift (res r x) r) (fun x r => Wp (lift (res r y) r) (fun y r => Wp (lift (copD o x y) r) (fun z r => Q (.d z) r) X) X) X) X) X := by simp only [Wp_eq, sel_eq, chk_eq, ev, zb, zo]
def isB : PyData → Option Bool
  | .bool b => some b
  | _ => none
theorem w_chn {o1 o2 : Cop} {a b c : E} : Wp (ev tb (.chn o1 o2 a b c) r) Q X = Wp (ev tb a r) (fun x r => Wp (ev tb b r) (fun yv r => Wp (lift (res r x) r) (fun x r => Wp (lift (res r yv) r) (fun y r => Wp (lift (copD o1 x y) r) (fun k r => Wp (lift (isB k) r) (fun k r =>
    Wp (sel k ((ev tb c r).bind fun z r => (lift (res r yv) r).bind fun y r => (lift (res r z) r).bind fun z r => (lift (copD o2 y z) r).bind fun k r => .ok (.d k) r) (.ok (.d (.bool false)) r)) Q X) X) X) X) X) X) X := by
  simp only [Wp_eq, sel_eq, chk_eq, ev, zb]
  congr; funext x r; congr; funext y r; congr; funext x r; congr; funext y r; congr; funext k r
  cases k <;> try rfl
  rename_i b
  cases b
  · rfl
  · simp only [Wp_eq, sel_eq, chk_eq, isB, zs, ite_tt_, if_true, zb, zo]
def isnD (yes : Bool) : PyData → Bool
  | .none => yes
  | _ => !yes
theorem w_isn {yes : Bool} {a : E} : Wp (ev tb (.isn yes a) r) Q X = Wp (ev tb a r) (fun x r => Wp (lift (res r x) r) (fun x r => Q (.d (.bool (isnD yes x))) r) X) X := by
  simp only [Wp_eq, sel_eq, chk_eq, ev, zb, zo]
  rfl
theorem w_tst {x : Vl} {Q : Bool → En → Prop} : Wp (tst x r) Q X = Wp (lift (res r x) r) (fun d r => Wp (chk (truOk d) (.ok (truD d) r)) Q X) X := by
  rw [tst, wp_bind]
  rfl
theorem w_and {a b : E} : Wp (ev tb (.and a b) r) Q X = Wp (ev tb a r) (fun x r => Wp (tst x r) (fun k r => Wp (sel k (ev tb b r) (.ok x r)) Q X) X) X := by simp only [Wp_eq, sel_eq, chk_eq, ev, zb]
theorem w_or {a b : E} : Wp (ev tb (.or a b) r) Q X = Wp (ev tb a r) (fun x r => Wp (tst x r) (fun k r => Wp (sel k (.ok x r) (ev tb b r)) Q X) X) X := by simp only [Wp_eq, sel_eq, chk_eq, ev, zb]
theorem w_not {a : E} : Wp (ev tb (.not a) r) Q X = Wp (ev tb a r) (fun x r => Wp (tst x r) (fun k r => Q (.d (.bool (!k))) r) X) X := by simp only [Wp_eq, sel_eq, chk_eq, ev, zb, zo]
theorem w_ite {c a b : E} : Wp (ev tb (.ite c a b) r) Q X = Wp (ev tb c r) (fun x r => Wp (tst x r) (fun k r => Wp (sel k (ev tb a r) (ev tb b r)) Q X) X) X := by simp only [Wp_eq, sel_eq, chk_eq, ev, zb]
theorem w_tup {as : Es} : Wp (ev tb (.tup as) r) Q X = Wp (evs tb as r) (fun ds r => Wp (chk (decide (ds.length ≤ sizeLine)) (.ok (.d (.tuple ds)) r)) Q X) X := by simp only [Wp_eq, sel_eq, chk_eq, ev, zb, chk_eq, decide_eq_true_eq]
theorem w_lst {as : Es} : Wp (ev tb (.lst as) r) Q X = Wp (evs tb as r) (fun ds r => Wp (chk (decide (ds.length ≤ sizeLine)) (.ok (.f (.list ds)) r)) Q X) X := by simp only [Wp_eq, sel_eq, chk_eq, ev, zb, chk_eq, decide_eq_true_eq]
theorem w_dic0 : Wp (ev tb .dic0 r) Q X = Q (.f (.dict [])) r := by simp only [Wp_eq, sel_eq, chk_eq, ev, zo]
theorem w_call {k : Nat} {as bs : Es} : Wp (ev tb (.call k as bs) r) Q X = Wp (lift tb[k]? r) (fun f r => Wp (evm tb as (f.md.take as.len) r) (fun ar r => Wp (evm tb bs (f.md.drop as.len) r) (fun br r => Wp (chk (nodup (Ar.slots (ar ++ br))) (lift (datas r (ar ++ br)) r)) (fun ds r => Wp (Wb r (Ar.slots (ar ++ br)) (f.run ds)) Q X) X) X) X) X := by
  simp only [Wp_eq, sel_eq, chk_eq, ev]
  cases tb[k]? with
  | none => rfl
  | some f =>
    simp only [Wp_eq, sel_eq, chk_eq, zb, zs]
    congr; funext ar r; congr; funext br r
    unfold callK
    split
    · simp only [Wp_eq, sel_eq, chk_eq, zb]; rfl
    · rfl
theorem w_blt {f : Bl} {as : Es} : Wp (ev tb (.blt f as) r) Q X = Wp (evv tb as r) (fun vs r => Wp (lift (vs.mapM (res r)) r) (fun ds r => Wp (lift (bltD f ds) r) Q X) X) X := by simp only [Wp_eq, sel_eq, chk_eq, ev, zb, zo]
theorem w_rng {t : Bool} {a b : E} : Wp (ev tb (.rng t a b) r) Q X = Wp (ev tb a r) (fun x r => Wp (ev tb b r) (fun y r => Wp (lift (res r x) r) (fun x r => Wp (lift (res r y) r) (fun y r => Wp (lift (rgI x y) r) (fun p r => Wp (sel t (.ok (.d (.tuple (rgD p.1 p.2))) r) (.ok (.f (.list (rgD p.1 p.2))) r)) Q X) X) X) X) X) X := by simp only [Wp_eq, sel_eq, chk_eq, ev, zb]
theorem w_isi {t : Ty} {a : E} : Wp (ev tb (.isi t a) r) Q X = Wp (ev tb a r) (fun x r => Wp (lift (res r x) r) (fun d r => Q (.d (.bool (isiD t d))) r) X) X := by simp only [Wp_eq, sel_eq, chk_eq, ev, zb, zo]
theorem w_ix {a i : E} : Wp (ev tb (.ix a i) r) Q X = Wp (ev tb a r) (fun x r => Wp (ev tb i r) (fun y r => Wp (lift (res r x) r) (fun x r => Wp (lift (res r y) r) (fun y r => Wp (lift (ixD x y) r) (fun z r => Q (.d z) r) X) X) X) X) X := by simp only [Wp_eq, sel_eq, chk_eq, ev, zb, zo]
theorem w_sl {a : E} {lo hi : Eo} : Wp (ev tb (.sl a lo hi) r) Q X = Wp (ev tb a r) (fun x r => Wp (evo tb lo r) (fun l r => Wp (evo tb hi r) (fun h r => Wp (lift (res r x) r) (fun x r => Wp (lift (slD x l h) r) Q X) X) X) X) X := by simp only [Wp_eq, sel_eq, chk_eq, ev, zb, zo]
theorem w_rev {a : E} : Wp (ev tb (.rev a) r) Q X = Wp (ev tb a r) (fun x r => Wp (lift (res r x) r) (fun x r => Wp (lift (revD x) r) Q X) X) X := by simp only [Wp_eq, sel_eq, chk_eq, ev, zb, zo]
/-- a comprehension's turns, and the names behind -/
def lcR (t : Tg) (co : En → R Bool) (elt : En → R Vl) (xs : List PyData) (rw r0 : En) : R Vl := match lcGo t co elt xs rw [] with
  | .ok ds r' => .ok (.f (.list ds)) (keepE r0 r')
  | _ => .st
theorem w_lc {t : Tg} {it : It} {co : Eo} {elt : E} : Wp (ev tb (.lc t it co elt) r) Q X = Wp (evi tb it r) (fun xs r0 => Wp (lift (wipeE r0 t.slots) r0) (fun rw _ => Wp (lcR t (evc tb co) (ev tb elt) xs rw r0) Q X) X) X := by
  simp only [Wp_eq, sel_eq, chk_eq, ev, zb]; rfl
theorem w_app {i : Nat} {a : E} : Wp (ev tb (.app i a) r) Q X = Wp (lift (ownL (slot r i)) r) (fun _ r => Wp (ev tb a r) (fun x r => Wp (cap x r) (fun d r => Wp (lift (ownL (slot r i)) r) (fun xs r => Wp (chk (decide (xs.length < sizeLine)) (.ok (.d .none) (chg r i (.list (xs ++ [d]))))) Q X) X) X) X) X := by simp only [Wp_eq, sel_eq, chk_eq, ev, zb, chk_eq, decide_eq_true_eq]
def fL : Vl → Option (List PyData)
  | .f (.list ys) => some ys
  | _ => none
theorem w_ext {i : Nat} {a : E} : Wp (ev tb (.ext i a) r) Q X = Wp (lift (ownL (slot r i)) r) (fun _ r => Wp (ev tb a r) (fun x r => Wp (lift (fL x) r) (fun ys r => Wp (lift (ownL (slot r i)) r) (fun xs r => Wp (chk (decide (xs.length + ys.length ≤ sizeLine)) (.ok (.d .none) (chg r i (.list (xs ++ ys))))) Q X) X) X) X) X := by
  simp only [Wp_eq, sel_eq, chk_eq, ev, zb]
  congr; funext _ r; congr; funext x r
  cases x with
  | d d => rfl
  | o i => rfl
  | f d => cases d <;> first | rfl | simp only [Wp_eq, sel_eq, chk_eq, zb, fL, zs, chk_eq, decide_eq_true_eq]
theorem w_pop {i : Nat} : Wp (ev tb (.pop i) r) Q X = Wp (lift (ownL (slot r i)) r) (fun xs r => Wp (lift xs[xs.length - 1]? r) (fun d r => Q (.d d) (chg r i (.list xs.dropLast))) X) X := by simp only [Wp_eq, sel_eq, chk_eq, ev, zb, zo]
theorem w_cap {v : Vl} {Q : PyData → En → Prop} : Wp (cap v r) Q X = Wp (match v with | .d x => .ok x r | .f x => .ok x r | .o i => match slot r i with | .sh d => .ok d r | .ow d => .ok d (r.set i (.sh d)) | _ => .st) Q X := rfl
theorem w_cap_d {d : PyData} {Q : PyData → En → Prop} : Wp (cap (.d d) r) Q X = Q d r := by rw [Wp_eq]; rfl
theorem w_cap_f {d : PyData} {Q : PyData → En → Prop} : Wp (cap (.f d) r) Q X = Q d r := by rw [Wp_eq]; rfl
theorem w_srt {a : E} : Wp (ev tb (.srt a) r) Q X = Wp (ev tb a r) (fun x r => Wp (lift (res r x) r) (fun d r => Wp (lift (srtD d) r) (fun ys r => Q (.f (.list ys)) r) X) X) X := by simp only [Wp_eq, sel_eq, chk_eq, ev, zb, zo]
theorem w_lns {a : E} : Wp (ev tb (.lns a) r) Q X = Wp (ev tb a r) (fun x r => Wp (lift (res r x) r) (fun d r => Wp (lift (lnsD d) r) (fun n r => Q (.d (.int n)) r) X) X) X := by simp only [Wp_eq, sel_eq, chk_eq, ev, zb, zo]
theorem w_srd {a b : E} : Wp (ev tb (.srd a b) r) Q X = Wp (ev tb a r) (fun x r => Wp (lift (res r x) r) (fun d r => Wp (lift (setD d) r) (fun zs r => Wp (ev tb b r) (fun y r => Wp (lift (res r y) r) (fun e r => Wp (lift (setD e) r) (fun us r => Wp (lift (srdD zs us) r) (fun ys r => Q (.f (.list ys)) r) X) X) X) X) X) X) X := by simp only [Wp_eq, sel_eq, chk_eq, ev, zb, zo]
theorem w_popi {i : Nat} {a : E} : Wp (ev tb (.popi i a) r) Q X = Wp (lift (ownL (slot r i)) r) (fun _ r => Wp (ev tb a r) (fun x r => Wp (lift (res r x) r) (fun d r => Wp (lift (ownL (slot r i)) r) (fun xs r => Wp (lift (popD d xs.length) r) (fun k r => Wp (lift xs[k]? r) (fun y r => Q (.d y) (chg r i (.list (xs.eraseIdx k)))) X) X) X) X) X) X := by simp only [Wp_eq, sel_eq, chk_eq, ev, zb, zo]
theorem w_snil {Q : List PyData → En → Prop} : Wp (evs tb .nil r) Q X = Q [] r := by simp only [Wp_eq, sel_eq, chk_eq, evs, zo]
theorem w_scons {a : E} {as : Es} {Q : List PyData → En → Prop} : Wp (evs tb (.cons a as) r) Q X = Wp (ev tb a r) (fun x r => Wp (cap x r) (fun d r => Wp (evs tb as r) (fun ds r => Q (d :: ds) r) X) X) X := by simp only [Wp_eq, sel_eq, chk_eq, evs, zb, zo]
def seqD : PyData → Option (List PyData)
  | .list xs => some xs
  | .tuple xs => some xs
  | _ => none
theorem w_sstar {a : E} {as : Es} {Q : List PyData → En → Prop} : Wp (evs tb (.star a as) r) Q X = Wp (ev tb a r) (fun x r => Wp (lift (res r x) r) (fun d r => Wp (lift (seqD d) r) (fun xs r => Wp (evs tb as r) (fun ds r => Q (xs ++ ds) r) X) X) X) X := by
  simp only [Wp_eq, sel_eq, chk_eq, evs, zb]
  congr; funext x r; congr; funext d r
  cases d <;> first | rfl | simp only [Wp_eq, sel_eq, chk_eq, zb, zo, seqD, zs]
theorem w_vnil {Q : List Vl → En → Prop} : Wp (evv tb .nil r) Q X = Q [] r := by simp only [Wp_eq, sel_eq, chk_eq, evv, zo]
theorem w_vcons {a : E} {as : Es} {Q : List Vl → En → Prop} : Wp (evv tb (.cons a as) r) Q X = Wp (ev tb a r) (fun x r => Wp (evv tb as r) (fun ds r => Q (x :: ds) r) X) X := by simp only [Wp_eq, sel_eq, chk_eq, evv, zb, zo]
theorem w_mnil {Q : List Ar → En → Prop} : Wp (evm tb .nil [] r) Q X = Q [] r := by simp only [Wp_eq, sel_eq, chk_eq, evm, zo]
theorem w_mf {a : E} {as : Es} {ms : List Bool} {Q : List Ar → En → Prop} : Wp (evm tb (.cons a as) (false :: ms) r) Q X = Wp (ev tb a r) (fun x r => Wp (cap x r) (fun d r => Wp (evm tb as ms r) (fun ds r => Q (.d d :: ds) r) X) X) X := by simp only [Wp_eq, sel_eq, chk_eq, evm, zb, zo]
def oI : Vl → Option Nat
  | .o i => some i
  | _ => none
theorem w_mt {a : E} {as : Es} {ms : List Bool} {Q : List Ar → En → Prop} : Wp (evm tb (.cons a as) (true :: ms) r) Q X = Wp (ev tb a r) (fun x r => Wp (evm tb as ms r) (fun ds r => Wp (lift (oI x) r) (fun i r => Q (.r i :: ds) r) X) X) X := by
  simp only [Wp_eq, sel_eq, chk_eq, evm, zb]
  congr; funext x r; congr; funext ds r
  cases x <;> rfl
theorem w_ono {Q : Option Int → En → Prop} : Wp (evo tb .no r) Q X = Q none r := by simp only [Wp_eq, sel_eq, chk_eq, evo, zo]
theorem w_oe {a : E} {Q : Option Int → En → Prop} : Wp (evo tb (.e a) r) Q X = Wp (ev tb a r) (fun x r => Wp (lift (res r x) r) (fun d r => Wp (lift (opI d) r) (fun i r => Q (some i) r) X) X) X := by simp only [Wp_eq, sel_eq, chk_eq, evo, zb, zo]
theorem w_cno {Q : Bool → En → Prop} : Wp (evc tb .no r) Q X = Q true r := by simp only [Wp_eq, sel_eq, chk_eq, evc, zo]
theorem w_ce {a : E} {Q : Bool → En → Prop} : Wp (evc tb (.e a) r) Q X = Wp (ev tb a r) (fun x r => Wp (tst x r) Q X) X := by simp only [Wp_eq, sel_eq, chk_eq, evc, zb]
theorem w_ie {a : E} {Q : List PyData → En → Prop} : Wp (evi tb (.e a) r) Q X = Wp (ev tb a r) (fun x r => Wp (cap x r) (fun d r => Wp (lift (itD r d) r) Q X) X) X := by simp only [Wp_eq, sel_eq, chk_eq, evi, zb, zo]
theorem w_i1 {a : E} {Q : List PyData → En → Prop} : Wp (evi tb (.r1 a) r) Q X = Wp (ev tb a r) (fun x r => Wp (lift (res r x) r) (fun x r => Wp (lift (rg62 (.int 0) x) r) Q X) X) X := by simp only [Wp_eq, sel_eq, chk_eq, evi, zb, zo]
theorem w_i2 {a b : E} {Q : List PyData → En → Prop} : Wp (evi tb (.r2 a b) r) Q X = Wp (ev tb a r) (fun x r => Wp (ev tb b r) (fun y r => Wp (lift (res r x) r) (fun x r => Wp (lift (res r y) r) (fun y r => Wp (lift (rg62 x y) r) Q X) X) X) X) X := by simp only [Wp_eq, sel_eq, chk_eq, evi, zb, zo]
end
theorem w_irvr {tb : List Fn} {r : En} {X : Xn → En → Prop} {a : E} {Q : List PyData → En → Prop} : Wp (evi tb (.rvr a) r) Q X = Wp (ev tb a r) (fun x r => Wp (lift (res r x) r) (fun x r => Wp (lift (rgI (.int 0) x) r) (fun p r => Q (rgD p.1 p.2).reverse r) X) X) X := by simp only [Wp_eq, sel_eq, chk_eq, evi, zb, zo]
theorem w_izip {tb : List Fn} {r : En} {X : Xn → En → Prop} {a b : E} {Q : List PyData → En → Prop} : Wp (evi tb (.zip a b) r) Q X = Wp (ev tb a r) (fun x r => Wp (ev tb b r) (fun y r => Wp (cap x r) (fun d r => Wp (cap y r) (fun e r => Wp (lift (zipD d e) r) Q X) X) X) X) X := by simp only [Wp_eq, sel_eq, chk_eq, evi, zb, zo]
theorem w_iez {tb : List Fn} {r : En} {X : Xn → En → Prop} {a b : E} {Q : List PyData → En → Prop} : Wp (evi tb (.ez a b) r) Q X = Wp (ev tb a r) (fun x r => Wp (ev tb b r) (fun y r => Wp (cap x r) (fun d r => Wp (cap y r) (fun e r => Wp (lift (ezD d e) r) Q X) X) X) X) X := by simp only [Wp_eq, sel_eq, chk_eq, evi, zb, zo]
section
variable {tb : List Fn} {r : En} {Q : Vl → En → Prop} {X : Xn → En → Prop}
theorem w_jn {a b : E} : Wp (ev tb (.jn a b) r) Q X = Wp (ev tb a r) (fun x r => Wp (lift (txV x) r) (fun x r => Wp (ev tb b r) (fun y r => Wp (lift (res r y) r) (fun y r => Wp (lift (jnD x y) r) (fun z r => Q (.d z) r) X) X) X) X) X := by simp only [Wp_eq, sel_eq, chk_eq, ev, zb, zo]
theorem w_sfi {a b : E} : Wp (ev tb (.sfi a b) r) Q X = Wp (ev tb a r) (fun x r => Wp (lift (txV x) r) (fun x r => Wp (ev tb b r) (fun y r => Wp (lift (res r y) r) (fun y r => Wp (lift (sfiD x y) r) (fun z r => Q (.d z) r) X) X) X) X) X := by simp only [Wp_eq, sel_eq, chk_eq, ev, zb, zo]
theorem w_ins {i : Nat} {a b : E} : Wp (ev tb (.ins i a b) r) Q X = Wp (lift (ownL (slot r i)) r) (fun _ r => Wp (ev tb a r) (fun x r => Wp (lift (res r x) r) (fun k r => Wp (ev tb b r) (fun y r => Wp (cap y r) (fun d r => Wp (lift (insD k) r) (fun k r => Wp (lift (ownL (slot r i)) r) (fun xs r => Wp (chk (decide (xs.length < sizeLine)) (.ok (.d .none) (chg r i (.list (xs.take k ++ [d] ++ xs.drop k))))) Q X) X) X) X) X) X) X) X := by simp only [Wp_eq, sel_eq, chk_eq, ev, zb, zo, decide_eq_true_eq]
theorem w_ebad : Wp (ev tb .bad r) Q X = False := by rw [Wp_eq]; simp only [ev]; rfl
theorem w_ien {a : E} {Q : List PyData → En → Prop} : Wp (evi tb (.en a) r) Q X = Wp (ev tb a r) (fun x r => Wp (cap x r) (fun d r => Wp (lift (lstD d) r) (fun xs r => Q (enD 0 xs) r) X) X) X := by simp only [Wp_eq, sel_eq, chk_eq, evi, zb, zo]
theorem w_sbad {Q : Fl → En → Prop} : Wp (ex1 tb .bad r) Q X = False := by rw [Wp_eq]; simp only [ex1]; rfl
end
/-! ## the statements -/
section
variable {tb : List Fn} {r : En} {Q : Fl → En → Prop} {X : Xn → En → Prop}
theorem w_asgn {i : Nat} {e : E} : Wp (ex1 tb (.asg (.n i) e) r) Q X = Wp (ev tb e r) (fun x r => Wp (asgV i x r) (fun _ r => Q .nx r) X) X := by simp only [Wp_eq, sel_eq, chk_eq, ex1, zb, zo]
theorem w_asgt {is : List Nat} {e : E} : Wp (ex1 tb (.asg (.t is) e) r) Q X = Wp (ev tb e r) (fun x r => Wp (cap x r) (fun d r => Wp (lift (asgT (.t is) d r) r) (fun r' _ => Q .nx r') X) X) X := by simp only [Wp_eq, sel_eq, chk_eq, ex1, zb, zo]
theorem w_set2 {i j : Nat} {e : E} : Wp (ex1 tb (.set2 i j e) r) Q X = Wp (ev tb e r) (fun x r => Wp (cap x r) (fun d r => Wp (lift (setN r i (.sh d)) r) (fun r _ => Wp (lift (setN r j (.sh d)) r) (fun r _ => Q .nx r) X) X) X) X := by simp only [Wp_eq, sel_eq, chk_eq, ex1, zb, zo]
def shI : Sl → Option Int
  | .sh (.int a) => some a
  | _ => none
theorem w_aug {i : Nat} {o : Bop} {e : E} : Wp (ex1 tb (.aug i o e) r) Q X = Wp (lift (shI (slot r i)) r) (fun a r => Wp (ev tb e r) (fun y r => Wp (lift (res r y) r) (fun y r => Wp (lift (augD o a y) r) (fun z r => Wp (lift (setN r i (.sh (.int z))) r) (fun r' _ => Q .nx r') X) X) X) X) X := by
  simp only [Wp_eq, sel_eq, chk_eq, ex1]
  cases slot r i with
  | sh d => cases d <;> first | rfl | simp only [Wp_eq, sel_eq, chk_eq, zb, zo, shI, zs]
  | un => rfl
  | ow d => rfl
  | rf d => rfl
theorem w_six {i : Nat} {x e : E} : Wp (ex1 tb (.six i x e) r) Q X = Wp (ev tb e r) (fun y r => Wp (cap y r) (fun d r => Wp (lift (ownL (slot r i)) r) (fun _ r => Wp (ev tb x r) (fun k r => Wp (lift (res r k) r) (fun k r => Wp (lift (setO r i k d) r) (fun r' _ => Q .nx r') X) X) X) X) X) X := by simp only [Wp_eq, sel_eq, chk_eq, ex1, zb, zo]
theorem w_dst {i : Nat} {x e : E} : Wp (ex1 tb (.dst i x e) r) Q X = Wp (ev tb e r) (fun y r => Wp (cap y r) (fun d r => Wp (lift (ownK (slot r i)) r) (fun _ r => Wp (ev tb x r) (fun k r => Wp (lift (res r k) r) (fun k r => Wp (lift (kOf k) r) (fun k r => Wp (lift (ownK (slot r i)) r) (fun ks r => Wp (chk (decide (ks.length < sizeLine)) (.ok .nx (chg r i (.dict (putD ks k d))))) Q X) X) X) X) X) X) X) X := by simp only [Wp_eq, sel_eq, chk_eq, ex1, zb, zo, decide_eq_true_eq]
def tup2 : PyData → Option (PyData × PyData)
  | .tuple [x, y] => some (x, y)
  | _ => none
theorem w_swp {i : Nat} {a b e : E} : Wp (ex1 tb (.swp i a b e) r) Q X = Wp (ev tb e r) (fun v r => Wp (cap v r) (fun v r => Wp (lift (tup2 v) r) (fun p r => Wp (lift (ownL (slot r i)) r) (fun _ r => Wp (ev tb a r) (fun k r => Wp (lift (res r k) r) (fun k r => Wp (lift (setO r i k p.1) r) (fun r _ => Wp (lift (ownL (slot r i)) r) (fun _ r => Wp (ev tb b r) (fun k r => Wp (lift (res r k) r) (fun k r => Wp (lift (setO r i k p.2) r) (fun r _ => Q .nx r) X) X) X) X) X) X) X) X) X) X) X := by
  simp only [Wp_eq, sel_eq, chk_eq, ex1, zb]
  congr; funext v r; congr; funext v r
  match v with
  | .tuple [x, y] => simp only [Wp_eq, sel_eq, chk_eq, zb, zo, tup2, zs]
  | .tuple [] => rfl
  | .tuple [x] => rfl
  | .tuple (x :: y :: z :: w) => rfl
  | .none => rfl
  | .bool _ => rfl
  | .int _ => rfl
  | .str _ => rfl
  | .list _ => rfl
  | .dict _ => rfl
theorem w_par {is : List Nat} {as : Es} : Wp (ex1 tb (.par is as) r) Q X = Wp (evs tb as r) (fun ds r => Wp (lift (asgL is ds r) r) (fun r' _ => Q .nx r') X) X := by simp only [Wp_eq, sel_eq, chk_eq, ex1, zb, zo]
theorem w_exp {e : E} : Wp (ex1 tb (.exp e) r) Q X = Wp (ev tb e r) (fun _ r => Q .nx r) X := by simp only [Wp_eq, sel_eq, chk_eq, ex1, zb, zo]
theorem w_ret {e : E} : Wp (ex1 tb (.ret e) r) Q X = Wp (ev tb e r) (fun x r => Wp (retV x r) Q X) X := by simp only [Wp_eq, sel_eq, chk_eq, ex1, zb]
theorem w_retn : Wp (ex1 tb .retn r) Q X = Q (.rt false .none) r := by simp only [Wp_eq, sel_eq, chk_eq, ex1, zo]
theorem w_ife {c : E} {a b : Ss} : Wp (ex1 tb (.ife c a b) r) Q X = Wp (ev tb c r) (fun x r => Wp (tst x r) (fun k r => Wp (sel k (exs tb a r) (exs tb b r)) Q X) X) X := by simp only [Wp_eq, sel_eq, chk_eq, ex1, zb]
theorem w_for {t : Tg} {it : It} {b : Ss} : Wp (ex1 tb (.for_ t it b) r) Q X = Wp (evi tb it r) (fun xs r => Wp (forGo t (exs tb b) xs r) Q X) X := by simp only [Wp_eq, sel_eq, chk_eq, ex1, zb]
theorem w_whl {n : Nat} {c : E} {b : Ss} : Wp (ex1 tb (.whl n c b) r) Q X = Wp (whGo (ev tb c) (exs tb b) n r) Q X := by simp only [Wp_eq, sel_eq, chk_eq, ex1]
theorem w_brk : Wp (ex1 tb .brk r) Q X = Q .bk r := by simp only [Wp_eq, sel_eq, chk_eq, ex1, zo]
theorem w_cnt : Wp (ex1 tb .cnt r) Q X = Q .ct r := by simp only [Wp_eq, sel_eq, chk_eq, ex1, zo]
theorem w_pas : Wp (ex1 tb .pas r) Q X = Q .nx r := by simp only [Wp_eq, sel_eq, chk_eq, ex1, zo]
theorem w_nil : Wp (exs tb .nil r) Q X = Q .nx r := by simp only [Wp_eq, sel_eq, chk_eq, exs, zo]
/-- what follows a statement -/
def nxt (f : Fl) (p : Prop) (q : Fl → Prop) : Prop := match f with
  | .nx => p
  | f => q f
theorem nxt_nx {p : Prop} {q : Fl → Prop} : nxt .nx p q = p := rfl
theorem nxt_rt {p : Prop} {q : Fl → Prop} {fr : Bool} {d : PyData} : nxt (.rt fr d) p q = q (.rt fr d) := rfl
theorem nxt_bk {p : Prop} {q : Fl → Prop} : nxt .bk p q = q .bk := rfl
theorem nxt_ct {p : Prop} {q : Fl → Prop} : nxt .ct p q = q .ct := rfl
theorem w_cons {s : S} {ss : Ss} : Wp (exs tb (.cons s ss) r) Q X = Wp (ex1 tb s r) (fun f r => nxt f (Wp (exs tb ss r) Q X) (fun f => Q f r)) X := by
  simp only [Wp_eq, sel_eq, chk_eq, exs, zb]
  congr; funext f r
  cases f <;> simp only [Wp_eq, sel_eq, chk_eq, nxt, zo]
theorem nxt_congr {f f' : Fl} {p : Prop} {q : Fl → Prop} (h : f = f') : nxt f p q = nxt f' p q := by rw [h]
theorem w_asgV_d {i : Nat} {d : PyData} {Q : Unit → En → Prop} : Wp (asgV i (.d d) r) Q X = Wp (lift (setN r i (.sh d)) r) (fun r' _ => Q () r') X := by simp only [Wp_eq, sel_eq, chk_eq, asgV, zb, zo]
theorem w_asgV_f {i : Nat} {d : PyData} {Q : Unit → En → Prop} : Wp (asgV i (.f d) r) Q X = Wp (lift (setN r i (.ow d)) r) (fun r' _ => Q () r') X := by simp only [Wp_eq, sel_eq, chk_eq, asgV, zb, zo]
theorem w_asgV_o {i j : Nat} {Q : Unit → En → Prop} : Wp (asgV i (.o j) r) Q X = Wp (cap (.o j) r) (fun d r => Wp (lift (setN r i (.sh d)) r) (fun r' _ => Q () r') X) X := by simp only [Wp_eq, sel_eq, chk_eq, asgV, zb, zo]
end
/-! ## loops -/
section
variable {tb : List Fn} {r : En} {X : Xn → En → Prop}
theorem Wp.for {t : Tg} {b : En → R Fl} {Q : Fl → En → Prop} (I : List PyData → En → Prop)
    (hs : ∀ x xs r, I (x :: xs) r → Wp (Di.lift (asgT t x r) r) (fun r1 _ => Wp (b r1) (fun f r2 => match f with
      | .nx => I xs r2
      | .ct => I xs r2
      | .bk => Q .nx r2
      | .rt fr d => Q (.rt fr d) r2) X) X) (he : ∀ r, I [] r → Q .nx r) : ∀ {xs : List PyData} {r : En}, I xs r → Wp (forGo t b xs r) Q X
  | [], r, h => ⟨he r h⟩
  | x :: xs, r, h => by
    have z := hs x xs r h
    unfold forGo
    rw [wp_bind]
    refine z.mono (fun r1 _ z => ?_) fun _ _ h => h
    rw [wp_bind]
    refine Wp.mono z (fun f r2 z => ?_) fun _ _ h => h
    cases f with
    | nx => exact Wp.for I hs he z
    | ct => exact Wp.for I hs he z
    | bk => exact ⟨z⟩
    | rt fr d => exact ⟨z⟩
/-- the loop ahead of it: what has been walked is known, too -/
theorem Wp.lc {t : Tg} {co : En → R Bool} {elt : En → R Vl} {Q : Vl → En → Prop} {rw r0 : En} (I : List PyData → List PyData → En → Prop)
    (hs : ∀ x xs acc r, I (x :: xs) acc r → Wp (Di.lift (asgT t x r) r) (fun r1 _ => Wp (co r1) (fun c r2 => Wp (Di.sel c
      ((elt r2).bind fun y r3 => (cap y r3).bind fun d r4 => Di.chk (decide (acc.length < sizeLine)) (.ok d r4)) (.ok .none r2)) (fun d r4 => Wp (Di.lift (wipeE r4 t.slots) r4) (fun r5 _ => I xs (if c then acc ++ [d] else acc) r5) fun _ _ => False) (fun _ _ => False)) (fun _ _ => False)) (fun _ _ => False))
    (he : ∀ acc r, I [] acc r → Q (.f (.list acc)) (keepE r0 r)) {xs : List PyData} (h : I xs [] rw) : Wp (lcR t co elt xs rw r0) Q X := by
  have go : ∀ (xs acc : List PyData) (r : En), I xs acc r → ∃ ds r', lcGo t co elt xs r acc = .ok ds r' ∧ I [] ds r' := fun xs => by
    induction xs with
    | nil => exact fun acc r h => ⟨acc, r, rfl, h⟩
    | cons x xs ih =>
      intro acc r h
      have z := hs x xs acc r h
      unfold lcGo
      cases e1 : asgT t x r with
      | none => rw [e1] at z; exact z.out.elim
      | some r1 =>
        rw [e1] at z
        simp only [wp_some] at z
        simp only [lift_some, R.bind_ok]
        cases e2 : co r1 with
        | st => rw [e2] at z; exact z.out.elim
        | ex e r => rw [e2] at z; exact z.out.elim
        | ok c r2 =>
          rw [e2] at z
          simp only [wp_ok] at z
          simp only [R.bind_ok]
          cases c with
          | false =>
            simp only [wp_self, wp_ok] at z
            rw [if_neg (by decide)]
            cases e5 : wipeE r2 t.slots with
            | none => rw [e5] at z; exact z.out.elim
            | some r5 =>
              rw [e5] at z
              simp only [wp_some] at z
              simp only [lift_some, R.bind_ok]
              exact ih _ _ z
          | true =>
            simp only [wp_selt, wp_bind] at z
            rw [if_pos rfl]
            cases e3 : elt r2 with
            | st => rw [e3] at z; exact z.out.elim
            | ex e r => rw [e3] at z; exact z.out.elim
            | ok y r3 =>
              rw [e3] at z
              simp only [wp_ok, wp_bind] at z
              simp only [R.bind_ok]
              cases e4 : cap y r3 with
              | st => rw [e4] at z; exact z.out.elim
              | ex e r => rw [e4] at z; exact z.out.elim
              | ok d r4 =>
                rw [e4] at z
                simp only [wp_ok] at z
                simp only [R.bind_ok]
                by_cases e6 : acc.length < sizeLine
                · rw [decide_eq_true e6] at z
                  simp only [wp_chkt, wp_ok] at z
                  rw [if_pos e6]
                  cases e5 : wipeE r4 t.slots with
                  | none => rw [e5] at z; exact z.out.elim
                  | some r5 =>
                    rw [e5] at z
                    simp only [wp_some] at z
                    simp only [lift_some, R.bind_ok]
                    exact ih _ _ z
                · rw [decide_eq_false e6] at z; exact z.out.elim
  obtain ⟨ds, r', e, i⟩ := go xs [] rw h
  unfold lcR
  rw [e]
  exact ⟨he ds r' i⟩
theorem Wp.whl {c : En → R Vl} {b : En → R Fl} {Q : Fl → En → Prop} (I : Nat → En → Prop)
    (hs : ∀ n r, I n r → Wp (c r) (fun x r => Wp (tst x r) (fun k r => Wp (Di.sel k ((b r).bind fun f r => .ok (some f) r) (.ok none r)) (fun o r2 => match o with
      | none => Q .nx r2
      | some .nx => ∃ m, n = m + 1 ∧ I m r2
      | some .ct => ∃ m, n = m + 1 ∧ I m r2
      | some .bk => Q .nx r2
      | some (.rt fr d) => Q (.rt fr d) r2) X) X) X) : ∀ {k n : Nat} {r : En}, I n r → n < k → Wp (whGo c b k r) Q X
  | 0, n, r, h, hk => by omega
  | k + 1, n, r, h, hk => by
    have z := hs n r h
    unfold whGo
    rw [wp_bind]
    refine z.mono (fun x r z => ?_) fun _ _ h => h
    rw [wp_bind]
    refine Wp.mono z (fun v r z => ?_) fun _ _ h => h
    cases v with
    | false =>
      rw [wp_self, wp_ok] at z
      rw [if_neg (by decide)]
      exact ⟨z⟩
    | true =>
      rw [wp_selt, wp_bind] at z
      rw [if_pos rfl, wp_bind]
      refine Wp.mono z (fun f r2 z => ?_) fun _ _ h => h
      rw [wp_ok] at z
      cases f with
      | nx => obtain ⟨m, e, i⟩ := z; exact Wp.whl I hs i (by omega)
      | ct => obtain ⟨m, e, i⟩ := z; exact Wp.whl I hs i (by omega)
      | bk => exact ⟨z⟩
      | rt fr d => exact ⟨z⟩
end
end Di
namespace Di
open PySem
def capS (s : Sl) (i : Nat) (r : En) : R PyData := match s with
  | .sh d => .ok d r
  | .ow d => .ok d (r.set i (.sh d))
  | _ => .st
section
variable {r : En} {X : Xn → En → Prop}
theorem w_cap_o {i : Nat} {Q : PyData → En → Prop} : Wp (cap (.o i) r) Q X = Wp (capS (slot r i) i r) Q X := by
  simp only [cap, capS] <;> (cases slot r i <;> rfl)
theorem mapM0 {α β : Type} {f : α → Option β} : List.mapM f [] = some [] := rfl
theorem mapM3 {α β : Type} {f : α → Option β} {a b c : α} : List.mapM f [a, b, c] = match f a, f b, f c with
  | some x, some y, some z => some [x, y, z]
  | _, _, _ => none := by
  simp only [List.mapM_cons, List.mapM_nil]
  cases f a <;> cases f b <;> cases f c <;> rfl
theorem keepE_sh {d : PyData} {y : Sl} {r r' : En} : keepE (.sh d :: r) (y :: r') = .sh d :: keepE r r' := rfl
theorem keepE_un {y : Sl} {r r' : En} : keepE (.un :: r) (y :: r') = .un :: keepE r r' := rfl
theorem keepE_rf {d : PyData} {y : Sl} {r r' : En} : keepE (.rf d :: r) (y :: r') = y :: keepE r r' := rfl
theorem ite_tt {α : Type} {a b : α} : (if true = true then a else b) = a := rfl
theorem ite_ff {α : Type} {a b : α} : (if false = true then a else b) = b := rfl
theorem slE : sizeLine = 16777216 := by decide
end
def Sl.nrf : Sl → Bool
  | .rf _ => false
  | _ => true
def Sl.shn : Sl → Bool
  | .un => true
  | .sh _ => true
  | _ => false
theorem setN_zn {x s : Sl} {r : En} (h : x.nrf = true) : setN (x :: r) 0 s = some (s :: r) := by
  cases x with
  | rf d => cases h
  | un => exact setN_zu
  | sh d => exact setN_zs
  | ow d => exact setN_zo
theorem wipe1n {r : En} {i : Nat} (h : (slot r i).shn = true) : wipeE r [i] = some (r.set i .un) := by
  rw [wipe1]
  cases q : slot r i <;> rw [q] at h <;> first | rfl | cases h
theorem keepE_same {x : Sl} {r r' : En} : keepE (x :: r) (x :: r') = x :: keepE r r' := by cases x <;> rfl
theorem keepE_ow {d : PyData} {y : Sl} {r r' : En} : keepE (.ow d :: r) (y :: r') = y :: keepE r r' := rfl
theorem keepE_shn {x y : Sl} {r r' : En} (h : x.shn = true) : keepE (x :: r) (y :: r') = x :: keepE r r' := by cases x <;> first | rfl | cases h
theorem keepE_nil : keepE [] [] = [] := rfl
theorem nrf_sh {d : PyData} : (Sl.sh d).nrf = true := rfl
theorem nrf_ow {d : PyData} : (Sl.ow d).nrf = true := rfl
theorem nrf_un : Sl.un.nrf = true := rfl
theorem shn_nrf {x : Sl} (h : x.shn = true) : x.nrf = true := by cases x <;> first | rfl | cases h
theorem eqvS {s : Str} : PyData.eqv (.str s) (.str s) = true := by
  show (s == s) = true
  exact beq_self_eq_true s
theorem rg62_ok {i j : Int} (h : -(2 ^ 62) ≤ i ∧ i < 2 ^ 62 ∧ -(2 ^ 62) ≤ j ∧ j < 2 ^ 62) : rg62 (.int i) (.int j) = some (rgD i j) := if_pos h
theorem rpB (b : Bool) : rpOk (.bool b) = true := (Gd.bool (k := 0) (m := 0) b).rp (by omega) (by omega)
/-- the pen: a draw -/
def Drawn (L : List Int) (a g u : Int) (f : Fr) : Prop := ∃ v a' g', f = .ok false (.int v) [pen L a' g'] ∧ 0 ≤ v ∧ v < u ∧ a ≤ a' ∧ a' ≤ a + 1 ∧ 0 ≤ g'
end Di
namespace Di
open PySem
theorem Wp.draw {r : En} {is : List Nat} {m : Fr} {Q : Vl → En → Prop} {X : Xn → En → Prop} {L : List Int} {a g u : Int} (h : Drawn L a g u m)
    (k : ∀ v a' g', 0 ≤ v → v < u → a ≤ a' → a' ≤ a + 1 → 0 ≤ g' → Wp (Di.lift (puts r is [pen L a' g']) r) (fun r' _ => Q (.d (.int v)) r') X) : Wp (Wb r is m) Q X := by
  obtain ⟨v, a', g', e, h1, h2, h3, h4, h5⟩ := h
  exact Wp.calle e (k v a' g' h1 h2 h3 h4 h5)

/-- an item at a place that is not written -/
theorem Wp.at {xs : List PyData} {i : Int} {r : En} {Q : PyData → En → Prop} {X : Xn → En → Prop} (h0 : 0 ≤ i) (h1 : i < xs.length) (k : ∀ x, x ∈ xs → Q x r) : Wp (Di.lift (L2.atI xs i) r) Q X := by
  obtain ⟨x, e, hx⟩ := at_some h0 h1
  rw [e, wp_some]
  exact k x hx
/-- the same, by the place -/
theorem Wp.ats {xs : List PyData} {i : Int} {r : En} {Q : PyData → En → Prop} {X : Xn → En → Prop} (h0 : 0 ≤ i) (h1 : i < xs.length) (k : ∀ (n : Nat) (x : PyData), i = (n : Int) → xs[n]? = some x → Q x r) : Wp (Di.lift (L2.atI xs i) r) Q X := by
  obtain ⟨n, rfl⟩ := Int.eq_ofNat_of_zero_le h0
  have hn : n < xs.length := by omega
  rw [at_nat, List.getElem?_eq_getElem hn, wp_some]
  exact k n _ rfl (List.getElem?_eq_getElem hn)
end Di
namespace Di
open PySem
/-- a slot that is not lent, a slot that holds nothing or data -/
inductive Nr where
  | un | sh (d : PyData) | ow (d : PyData)
def nr : Nr → Sl
  | .un => .un
  | .sh d => .sh d
  | .ow d => .ow d
inductive Sn where
  | un | sh (d : PyData)
def sn : Sn → Sl
  | .un => .un
  | .sh d => .sh d
section
variable {r r' : En} {s : Sl} {a : Nr} {b : Sn} {d : PyData} {y : Sl} {i : Nat}
theorem setN_nr : setN (nr a :: r) 0 s = some (s :: r) := by cases a <;> first | exact setN_zu | exact setN_zs | exact setN_zo
theorem setN_sn : setN (sn b :: r) 0 s = some (s :: r) := by cases b <;> first | exact setN_zu | exact setN_zs
theorem wipe1s : wipeE r [i] = if (slot r i).shn then some (r.set i .un) else none := by
  rw [wipe1]
  cases slot r i <;> rfl
theorem wipe0 : wipeE r [] = some r := rfl
theorem wipe2s {j : Nat} : wipeE r [i, j] = match wipeE r [j] with | some r' => wipeE r' [i] | none => none := by
  simp only [wipeE] <;> (cases slot r j <;> rfl)
theorem shn_sn : (sn b).shn = true := by cases b <;> rfl
theorem shn_sh : (Sl.sh d).shn = true := rfl
theorem shn_un : Sl.un.shn = true := rfl
theorem keepE_nr : keepE (nr a :: r) (nr a :: r') = nr a :: keepE r r' := by cases a <;> rfl
theorem keepE_sn : keepE (sn b :: r) (y :: r') = sn b :: keepE r r' := by cases b <;> rfl
end
end Di
namespace Di
open PySem
theorem Wp.atP {xs : List PyData} {i : Int} {r : En} {Q : PyData → En → Prop} {X : Xn → En → Prop} (P : PyData → Prop) (hall : ∀ x ∈ xs, P x) (h0 : 0 ≤ i) (h1 : i < xs.length) (k : ∀ x, P x → Q x r) : Wp (Di.lift (L2.atI xs i) r) Q X :=
  Wp.at h0 h1 fun x hx => k x (hall x hx)
/-- an item of a list of numbers -/
theorem Wp.atI {xs : List PyData} {i : Int} {r : En} {Q : PyData → En → Prop} {X : Xn → En → Prop} (lo hi : Int) (hall : ∀ x ∈ xs, ∃ v, x = .int v ∧ lo ≤ v ∧ v ≤ hi) (h0 : 0 ≤ i) (h1 : i < xs.length) (k : ∀ v, lo ≤ v → v ≤ hi → Q (.int v) r) : Wp (Di.lift (L2.atI xs i) r) Q X :=
  Wp.at h0 h1 fun x hx => by obtain ⟨v, rfl, a, b⟩ := hall x hx; exact k v a b
theorem all_cons {α : Type} {P : α → Prop} {a : α} {l : List α} (h : P a) (g : ∀ x ∈ l, P x) : ∀ x ∈ a :: l, P x := fun x hx => by
  rcases List.mem_cons.mp hx with rfl | h'
  · exact h
  · exact g x h'
theorem all_nil {α : Type} {P : α → Prop} : ∀ x ∈ ([] : List α), P x := fun x hx => by cases hx
theorem eqvI {i j : Int} : PyData.eqv (.int i) (.int j) = decide (i = j) := by
  show (i == j) = _
  rfl
theorem shI_ {i : Int} : SeqAt.shaped (.int i) = true := rfl
theorem shS_ {s : Str} (h : PyData.canLay0 (.str s) = true) : SeqAt.shaped (.str s) = true := by
  unfold SeqAt.shaped; rw [h]; rfl
theorem es_pp : PyData.eqv (.str "pop") (.str "pop") = true := by decide +kernel
theorem es_pd : PyData.eqv (.str "pop") (.str "dup") = false := by decide +kernel
theorem es_ps : PyData.eqv (.str "pop") (.str "swap") = false := by decide +kernel
theorem es_dp : PyData.eqv (.str "dup") (.str "pop") = false := by decide +kernel
theorem es_dd : PyData.eqv (.str "dup") (.str "dup") = true := by decide +kernel
theorem es_ds : PyData.eqv (.str "dup") (.str "swap") = false := by decide +kernel
theorem es_sp : PyData.eqv (.str "swap") (.str "pop") = false := by decide +kernel
theorem es_sd : PyData.eqv (.str "swap") (.str "dup") = false := by decide +kernel
theorem es_ss : PyData.eqv (.str "swap") (.str "swap") = true := by decide +kernel
end Di
namespace Di
open PySem
abbrev NoX : Xn → En → Prop := fun _ _ => False
/-- a comprehension whose turns change nothing: some items, each seen by f -/
theorem Wp.lcF {t : Tg} {co : En → R Bool} {elt : En → R Vl} {Q : Vl → En → Prop} {X : Xn → En → Prop} {rw r0 : En} {xs : List PyData} (p : PyData → Bool) (f : PyData → PyData)
    (hs : ∀ x ∈ xs, Wp (Di.lift (asgT t x rw) rw) (fun r1 _ => Wp (co r1) (fun c r2 => c = p x ∧ Wp (Di.sel c ((elt r2).bind fun y r3 => cap y r3) (.ok .none r2)) (fun d r4 => (p x = true → d = f x) ∧ wipeE r4 t.slots = some rw) NoX) NoX) NoX)
    (hl : xs.length ≤ sizeLine) (he : Q (.f (.list ((xs.filter p).map f))) (keepE r0 rw)) : Wp (lcR t co elt xs rw r0) Q X := by
  refine Wp.lc (fun rest acc r => r = rw ∧ ∃ done, xs = done ++ rest ∧ acc = (done.filter p).map f) ?_ ?_ ⟨rfl, [], rfl, rfl⟩
  · rintro x rest acc r ⟨rfl, done, e, ea⟩
    have z := hs x (by rw [e]; simp)
    refine z.mono (fun r1 _ z => z.mono (fun c r2 z => ?_) fun _ _ h => h) fun _ _ h => h
    obtain ⟨ec, z⟩ := z
    have next : ∀ d, (p x = true → d = f x) → (if c then acc ++ [d] else acc) = ((done ++ [x]).filter p).map f := fun d hd => by
      subst ec
      rw [List.filter_append, List.map_append, ← ea]
      cases q : p x with
      | true => rw [if_pos rfl, hd q, List.filter_cons_of_pos q]; simp
      | false => rw [if_neg (by decide), List.filter_cons_of_neg (by rw [q]; decide)]; simp
    have len : c = true → acc.length < sizeLine := fun _ => by
      have h1 : acc.length ≤ done.length := by rw [ea, List.length_map]; exact List.length_filter_le _ _
      have h2 : xs.length = done.length + (rest.length + 1) := by rw [e]; simp
      omega
    cases c with
    | false =>
      rw [wp_self, wp_ok] at z ⊢
      refine Wp.lift z.2 ⟨rfl, done ++ [x], by rw [e]; simp, next _ fun h => by rw [← ec] at h; cases h⟩
    | true =>
      rw [wp_selt, wp_bind] at z ⊢
      refine Wp.mono z (fun y r3 z => ?_) fun _ _ h => h
      rw [wp_bind]
      refine Wp.mono z (fun d r4 z => ?_) fun _ _ h => h
      rw [decide_eq_true (len rfl), wp_chkt, wp_ok]
      refine Wp.lift z.2 ⟨rfl, done ++ [x], by rw [e]; simp, next _ z.1⟩
  · rintro acc r ⟨rfl, done, e, ea⟩
    rw [List.append_nil] at e
    subst e ea
    exact he
theorem Wp.lcM {t : Tg} {co : En → R Bool} {elt : En → R Vl} {Q : Vl → En → Prop} {X : Xn → En → Prop} {rw r0 : En} {xs : List PyData} (f : PyData → PyData)
    (hs : ∀ x ∈ xs, Wp (Di.lift (asgT t x rw) rw) (fun r1 _ => Wp (co r1) (fun c r2 => c = true ∧ Wp ((elt r2).bind fun y r3 => cap y r3) (fun d r4 => d = f x ∧ wipeE r4 t.slots = some rw) NoX) NoX) NoX)
    (hl : xs.length ≤ sizeLine) (he : Q (.f (.list (xs.map f))) (keepE r0 rw)) : Wp (lcR t co elt xs rw r0) Q X := by
  refine Wp.lcF (fun _ => true) f (fun x hx => (hs x hx).mono (fun r1 _ z => z.mono (fun c r2 z => ⟨z.1, ?_⟩) fun _ _ h => h) fun _ _ h => h) hl (by rw [filter_tt]; exact he)
  rw [z.1, wp_selt]
  exact z.2.mono (fun d r4 z => ⟨fun _ => z.1, z.2⟩) fun _ _ h => h
end Di
namespace Di
open PySem
theorem sh_l0 : SeqAt.shaped (.list []) = true := rfl
theorem sh_t0 : SeqAt.shaped (.tuple []) = true := rfl
theorem filter_ff {α : Type} : ∀ xs : List α, xs.filter (fun _ => false) = []
  | [] => rfl
  | x :: xs => by rw [List.filter_cons_of_neg (by decide), filter_ff xs]
theorem eqv_tnil' {l : List PyData} : PyData.eqv (.tuple l) (.tuple []) = l.isEmpty := by cases l <;> rfl
theorem isE_nil {α : Type} : ([] : List α).isEmpty = true := rfl
theorem isE_cons {α : Type} {a : α} {l : List α} : (a :: l).isEmpty = false := rfl
end Di
namespace Di
open PySem
theorem copD_eq {x y : PyData} : copD .eq x y = if cmpOk x y = true then some (.bool (PyData.eqv x y)) else none := rfl
theorem copD_ne {x y : PyData} : copD .ne x y = if cmpOk x y = true then some (.bool (!PyData.eqv x y)) else none := rfl
theorem cmpS {a b : Str} : cmpOk (.str a) (.str b) = true := rfl
theorem cmpI {a b : Int} : cmpOk (.int a) (.int b) = true := rfl
theorem cmp_of {x y : PyData} (h : SeqAt.shaped x = true) (g : SeqAt.shaped y = true) : cmpOk x y = true := by
  unfold cmpOk
  rw [h, g, Bool.and_self, Bool.true_or, Bool.or_true]
theorem cmp_l00 : cmpOk (.list []) (.list []) = true := rfl
theorem cmp_t00 : cmpOk (.tuple []) (.tuple []) = true := rfl
end Di
namespace Di
open PySem
theorem Wp.selT {α : Type} {Q : α → En → Prop} {X : Xn → En → Prop} {m m2 : R α} {c : Bool} (h : c = true) (w : Wp m Q X) : Wp (Di.sel c m m2) Q X := by subst h; exact w
theorem Wp.selF {α : Type} {Q : α → En → Prop} {X : Xn → En → Prop} {m m2 : R α} {c : Bool} (h : c = false) (w : Wp m2 Q X) : Wp (Di.sel c m m2) Q X := by subst h; exact w
end Di
namespace Di
open PySem
theorem shp_ints : ∀ L : List Int, SeqAt.shaped (scr L) = true := fun L => by
  have h1 : ∀ L : List Int, PyData.canLayAll0 (L.map .int) = true := fun L => by
    induction L with
    | nil => rfl
    | cons x L ih => simp only [List.map_cons, PyData.canLayAll0, PyData.canLay0, ih, Bool.and_self]
  have h2 : ∀ L : List Int, PyData.depthAll (L.map .int) ≤ 1 := fun L => by
    induction L with
    | nil => simp [PyData.depthAll]
    | cons x L ih => simp only [List.map_cons, PyData.depthAll, PyData.depth]; omega
  unfold SeqAt.shaped
  rw [Bool.and_eq_true]
  refine ⟨by simpa only [scr, PyData.canLay0] using h1 L, decide_eq_true ?_⟩
  have := h2 L
  simp only [scr, PyData.depth]
  omega
theorem cmp_scr {L : List Int} : cmpOk (scr L) (.list []) = true := cmp_of (shp_ints L) rfl
theorem drawn_of {L : List Int} {a g u : Int} {f : Fr} (h : Sp f (fun fr d o => ∃ v a' g', fr = false ∧ d = .int v ∧ o = [pen L a' g'] ∧ 0 ≤ v ∧ v < u ∧ a ≤ a' ∧ a' ≤ a + 1 ∧ 0 ≤ g') fun _ _ => False) : Drawn L a g u f := by
  cases f with
  | st => exact h.elim
  | ok fr d o => obtain ⟨v, a', g', rfl, rfl, rfl, h⟩ := h; exact ⟨v, a', g', rfl, h⟩
  | ex e o => exact h.elim
/-! ## words -/
def low (c : Nat) : Bool := decide (97 ≤ c) && decide (c ≤ 122)
def wordD : PyData → Bool
  | .str z => decide (1 ≤ z.length ∧ z.length ≤ 8) && z.cps.toList.all low
  | _ => false
def lowS : PyData → Bool
  | .str z => match z.cps.toList with
    | [c] => low c
    | _ => false
  | _ => false
theorem lt1 {a b : Nat} : decide (([a] : List Nat) < [b]) = decide (a < b) := by
  rw [Bool.eq_iff_iff, decide_eq_true_eq, decide_eq_true_eq]
  constructor
  · intro h
    rcases List.cons_lt_cons_iff.mp h with h | ⟨_, h⟩
    · exact h
    · cases h
  · intro h
    exact List.cons_lt_cons_iff.mpr (.inl h)
theorem cps_a : ("a" : Str).cps.toList = [97] := by decide +kernel
theorem cps_z : ("z" : Str).cps.toList = [122] := by decide +kernel
theorem cps_abc : ("abcdefghijklmnopqrstuvwxyz" : Str).cps.toList = List.range' 97 26 := by decide +kernel
theorem le_a {c : Nat} : (!decide ([c] < ("a" : Str).cps.toList)) = decide (97 ≤ c) := by
  rw [cps_a, lt1, ← decide_not]
  simp
theorem le_z {c : Nat} : (!decide (("z" : Str).cps.toList < [c])) = decide (c ≤ 122) := by
  rw [cps_z, lt1, ← decide_not]
  simp
theorem in_abc {c : Nat} : decide (c ∈ ("abcdefghijklmnopqrstuvwxyz" : Str).cps.toList) = low c := by
  rw [cps_abc, Bool.eq_iff_iff, decide_eq_true_eq, List.mem_range'_1]
  simp [low]
  omega
theorem sgn1 {c : Nat} : sgn ⟨#[c]⟩ = some c := rfl
theorem mapSome {α β : Type} {f : α → β} {a : α} : (some a).map f = some (f a) := rfl
theorem low_map {l : List Nat} : (l.map fun c => PyData.str ⟨#[c]⟩).map lowS = l.map low := by
  rw [List.map_map]
  rfl
theorem word_low {z : Str} (h1 : 1 ≤ z.length) (h2 : z.length ≤ 8) : ((z.cps.toList.map fun c => PyData.str ⟨#[c]⟩).map lowS).all id = wordD (.str z) := by
  rw [low_map, List.all_map]
  show z.cps.toList.all low = (decide (1 ≤ z.length ∧ z.length ≤ 8) && z.cps.toList.all low)
  rw [decide_eq_true ⟨h1, h2⟩, Bool.true_and]
theorem wordD_no {z : Str} (h : ¬(1 ≤ z.length ∧ z.length ≤ 8)) : wordD (.str z) = false := by
  show (decide (1 ≤ z.length ∧ z.length ≤ 8) && z.cps.toList.all low) = false
  rw [decide_eq_false h, Bool.false_and]
theorem filter_low {l : List Nat} : ((l.map fun c => PyData.str ⟨#[c]⟩).filter fun x => !lowS x).isEmpty = l.all low := by
  induction l with
  | nil => rfl
  | cons c l ih =>
    rw [List.map_cons, List.filter_cons, List.all_cons]
    have e : lowS (.str ⟨#[c]⟩) = low c := rfl
    rw [e]
    cases low c with
    | true => rw [if_neg (by decide)]; exact ih
    | false => rw [if_pos (by decide)]; rfl
theorem cmp_nil {xs : List PyData} : cmpOk (.list xs) (.list []) = true := by
  unfold cmpOk
  show (_ || (_ || (_ || true))) = true
  simp
theorem map_id' {xs : List PyData} : xs.map (fun x => x) = xs := by induction xs with
  | nil => rfl
  | cons x xs ih => rw [List.map_cons, ih]
theorem filter_all {p : PyData → Bool} {xs : List PyData} : (xs.filter fun x => !p x).isEmpty = xs.all p := by
  induction xs with
  | nil => rfl
  | cons x xs ih =>
    rw [List.filter_cons, List.all_cons]
    cases p x with
    | true => exact ih
    | false => rfl
theorem wipe3s {r : En} {i j k : Nat} : wipeE r [i, j, k] = match wipeE r [j, k] with | some r' => wipeE r' [i] | none => none := by
  rw [wipeE]
  cases wipeE r [j, k] with
  | none => rfl
  | some r' =>
    simp only [wipeE]
theorem len4I {a b c d : PyData} : decide ((([a, b, c, d] : List PyData).length : Int) = 4) = true := rfl
theorem rep00 : List.replicate (1 - 1) Sl.un = [] := rfl
end Di
namespace K11
open PySem PySem.Spec PyProof.Rows L2 Di
def ir_law_pen : Ss :=
    (.cons (.ret (.lst (.cons (.blt .list (.cons (.sl (.v 0) .no (.e (.c (.int 63)))) .nil)) (.cons (.c (.int 0)) (.cons (.c (.int 0)) .nil)))))
    .nil)
def f_law_pen : Fn := ⟨[false], fun ds => fnRun [] 1 ([false] ++ List.replicate 0 false) K11.ir_law_pen (ds ++ [])⟩
theorem md_law_pen : f_law_pen.md = [false] := rfl
def ir_law_pick : Ss :=
    (.cons (.ife (.cmp .gt (.ix (.v 0) (.c (.int 2))) (.c (.int 0))) (.cons (.asg (.n 6) (.bop .mod (.ix (.v 0) (.c (.int 2))) (.v 1)))
    (.cons (.six 0 (.c (.int 2)) (.bop .fdiv (.ix (.v 0) (.c (.int 2))) (.v 1)))
    (.cons (.ret (.v 6))
    .nil))) .nil)
    (.cons (.asg (.n 2) (.ix (.v 0) (.c (.int 1))))
    (.cons (.six 0 (.c (.int 1)) (.bop .add (.v 2) (.c (.int 1))))
    (.cons (.asg (.n 3) (.bop .add (.bop .mul (.c (.int 9601)) (.v 2)) (.c (.int 113))))
    (.cons (.ife (.cmp .ne (.ix (.v 0) (.c (.int 0))) (.lst .nil)) (.cons (.asg (.n 3) (.ix (.ix (.v 0) (.c (.int 0))) (.bop .mod (.v 2) (.blt .len (.cons (.ix (.v 0) (.c (.int 0))) .nil)))))
    .nil) .nil)
    (.cons (.ife (.and (.cmp .lt (.v 2) (.blt .len (.cons (.ix (.v 0) (.c (.int 0))) .nil))) (.cmp .ge (.blt .abs (.cons (.v 3) .nil)) (.bop .pow (.c (.int 10)) (.c (.int 18))))) (.cons (.asg (.n 7) (.bop .add (.bop .mul (.c (.int 2)) (.bop .sub (.blt .abs (.cons (.v 3) .nil)) (.bop .pow (.c (.int 10)) (.c (.int 18))))) (.blt .int (.cons (.cmp .lt (.v 3) (.c (.int 0))) .nil))))
    (.cons (.six 0 (.c (.int 2)) (.bop .fdiv (.v 7) (.v 1)))
    (.cons (.ret (.bop .mod (.v 7) (.v 1)))
    .nil))) .nil)
    (.cons (.asg (.n 4) (.bop .mod (.bop .pow (.bop .add (.bop .add (.bop .add (.bop .mod (.v 3) (.c (.int 2147483587))) (.bop .mul (.bop .mul (.c (.int 44027)) (.v 2)) (.v 2))) (.bop .mul (.c (.int 27011)) (.v 2))) (.c (.int 83))) (.c (.int 3))) (.c (.int 2147483629))))
    (.cons (.asg (.n 5) (.bop .mod (.bop .pow (.bop .add (.bop .mul (.v 4) (.bop .add (.bop .mul (.c (.int 2)) (.v 2)) (.c (.int 37)))) (.c (.int 60013))) (.c (.int 5))) (.c (.int 2147483563))))
    (.cons (.ret (.bop .mod (.bop .fdiv (.v 5) (.c (.int 64))) (.v 1)))
    .nil)))))))))
def f_law_pick : Fn := ⟨[true, false], fun ds => fnRun [] 8 ([true, false] ++ List.replicate 0 false) K11.ir_law_pick (ds ++ [])⟩
theorem md_law_pick : f_law_pick.md = [true, false] := rfl
def ir_law_deeds : Ss :=
    (.cons (.asg (.n 3) (.call 0 (.cons (.v 0) (.cons (.c (.int 4)) .nil)) .nil))
    (.cons (.asg (.n 4) (.lst .nil))
    (.cons (.for_ (.n 5) (.r1 (.v 1)) (.cons (.asg (.n 6) (.bop .add (.c (.int 1)) (.call 0 (.cons (.v 0) (.cons (.ix (.lst (.cons (.v 2) (.cons (.v 2) (.cons (.v 2) (.cons (.c (.int 2)) .nil))))) (.v 3)) .nil)) .nil)))
    (.cons (.asg (.n 7) (.ix (.lst (.cons (.c (.int 0)) (.cons (.c (.int 1)) (.cons (.c (.int 2)) (.cons (.c (.int 1)) (.cons (.c (.int 2)) (.cons (.c (.int 0)) (.cons (.c (.int 2)) (.cons (.c (.int 2)) .nil))))))))) (.call 0 (.cons (.v 0) (.cons (.c (.int 8)) .nil)) .nil)))
    (.cons (.ife (.and (.cmp .eq (.v 3) (.c (.int 1))) (.cmp .eq (.v 7) (.c (.int 0)))) (.cons (.asg (.n 7) (.c (.int 2)))
    .nil) .nil)
    (.cons (.ife (.and (.cmp .eq (.v 3) (.c (.int 2))) (.cmp .eq (.v 7) (.c (.int 1)))) (.cons (.asg (.n 7) (.c (.int 0)))
    .nil) .nil)
    (.cons (.exp (.app 4 (.ix (.lst (.cons (.tup (.cons (.c (.str "pop")) .nil)) (.cons (.tup (.cons (.c (.str "dup")) (.cons (.v 6) .nil))) (.cons (.tup (.cons (.c (.str "swap")) (.cons (.v 6) .nil))) .nil)))) (.v 7))))
    .nil))))))
    (.cons (.ret (.blt .tuple (.cons (.v 4) .nil)))
    .nil))))
def f_law_deeds : Fn := ⟨[true, false, false], fun ds => fnRun [K11.f_law_pick] 8 ([true, false, false] ++ List.replicate 0 false) K11.ir_law_deeds (ds ++ [])⟩
theorem md_law_deeds : f_law_deeds.md = [true, false, false] := rfl
def ir_part_items : Ss :=
    (.cons (.ife (.isi .list (.v 0)) (.cons (.ret (.blt .list (.cons (.v 0) .nil)))
    .nil) .nil)
    (.cons (.ife (.and (.isi .tuple (.v 0)) (.blt .all (.cons (.lc (.n 1) (.e (.v 0)) .no (.isi .tuple (.v 1))) .nil))) (.cons (.ret (.blt .list (.cons (.v 0) .nil)))
    .nil) .nil)
    (.cons (.ret (.lst (.cons (.v 0) .nil)))
    .nil)))
def f_part_items : Fn := ⟨[false], fun ds => fnRun [] 2 ([false] ++ List.replicate 0 false) K11.ir_part_items (ds ++ [])⟩
theorem md_part_items : f_part_items.md = [false] := rfl
def ir_listed : Ss :=
    (.cons (.asg (.n 1) (.lst .nil))
    (.cons (.for_ (.n 2) (.e (.v 0)) (.cons (.exp (.ext 1 (.call 0 (.cons (.v 2) .nil) .nil)))
    .nil))
    (.cons (.ret (.v 1))
    .nil)))
def f_listed : Fn := ⟨[false], fun ds => fnRun [K11.f_part_items] 3 ([false] ++ List.replicate 0 false) K11.ir_listed (ds ++ [])⟩
theorem md_listed : f_listed.md = [false] := rfl
def ir_height_change : Ss :=
    (.cons (.ret (.kdx "HEIGHT_CHANGES" [((.str "pop"), (.int (-1))), ((.str "dup"), (.int 1)), ((.str "swap"), (.int 0))] (.ix (.v 0) (.c (.int 0)))))
    .nil)
def f_height_change : Fn := ⟨[false], fun ds => fnRun [] 1 ([false] ++ List.replicate 0 false) K11.ir_height_change (ds ++ [])⟩
theorem md_height_change : f_height_change.md = [false] := rfl
def ir_generic_stack : Ss :=
    (.cons (.ret (.rng true (.c (.int 1)) (.bop .add (.v 0) (.c (.int 1)))))
    .nil)
def f_generic_stack : Fn := ⟨[false], fun ds => fnRun [] 1 ([false] ++ List.replicate 0 false) K11.ir_generic_stack (ds ++ [])⟩
theorem md_generic_stack : f_generic_stack.md = [false] := rfl
def ir_perform : Ss :=
    (.cons (.ife (.cmp .eq (.ix (.v 1) (.c (.int 0))) (.c (.str "pop"))) (.cons (.exp (.pop 0))
    .nil) (.cons (.ife (.cmp .eq (.ix (.v 1) (.c (.int 0))) (.c (.str "push"))) (.cons (.exp (.app 0 (.ix (.v 1) (.c (.int 1)))))
    .nil) (.cons (.ife (.cmp .eq (.ix (.v 1) (.c (.int 0))) (.c (.str "dup"))) (.cons (.exp (.app 0 (.ix (.v 0) (.neg (.ix (.v 1) (.c (.int 1)))))))
    .nil) (.cons (.asg (.n 2) (.bop .sub (.neg (.c (.int 1))) (.ix (.v 1) (.c (.int 1)))))
    (.cons (.swp 0 (.neg (.c (.int 1))) (.v 2) (.tup (.cons (.ix (.v 0) (.v 2)) (.cons (.ix (.v 0) (.neg (.c (.int 1)))) .nil))))
    .nil)))
    .nil))
    .nil))
    .nil)
def f_perform : Fn := ⟨[true, false], fun ds => fnRun [] 3 ([true, false] ++ List.replicate 0 false) K11.ir_perform (ds ++ [])⟩
theorem md_perform : f_perform.md = [true, false] := rfl
def ir_cells_needed : Ss :=
    (.cons (.ife (.cmp .eq (.ix (.v 0) (.c (.int 0))) (.c (.str "pop"))) (.cons (.ret (.c (.int 1)))
    .nil) .nil)
    (.cons (.ife (.cmp .eq (.ix (.v 0) (.c (.int 0))) (.c (.str "dup"))) (.cons (.ret (.ix (.v 0) (.c (.int 1))))
    .nil) .nil)
    (.cons (.ret (.bop .add (.ix (.v 0) (.c (.int 1))) (.c (.int 1))))
    .nil)))
def f_cells_needed : Fn := ⟨[false], fun ds => fnRun [] 1 ([false] ++ List.replicate 0 false) K11.ir_cells_needed (ds ++ [])⟩
theorem md_cells_needed : f_cells_needed.md = [false] := rfl
def ir_card_of : Ss :=
    (.cons (.asg (.n 1) (.call 0 (.cons (.v 0) .nil) .nil))
    (.cons (.set2 2 3 (.c (.int 0)))
    (.cons (.for_ (.n 4) (.e (.v 1)) (.cons (.asg (.n 2) (.blt .max (.cons (.v 2) (.cons (.bop .sub (.call 1 (.cons (.v 4) .nil) .nil) (.v 3)) .nil))))
    (.cons (.aug 3 .add (.call 2 (.cons (.v 4) .nil) .nil))
    .nil)))
    (.cons (.asg (.n 5) (.blt .list (.cons (.call 3 (.cons (.v 2) .nil) .nil) .nil)))
    (.cons (.for_ (.n 4) (.e (.v 1)) (.cons (.exp (.call 4 (.cons (.v 5) (.cons (.v 4) .nil)) .nil))
    .nil))
    (.cons (.ret (.tup (.cons (.v 2) (.cons (.blt .tuple (.cons (.v 5) .nil)) .nil))))
    .nil))))))
def f_card_of_n3 : Fn := ⟨List.replicate (0 + 3) false, fun ds => fnRun [K11.f_listed, K11.f_cells_needed, K11.f_height_change, K11.f_generic_stack, K11.f_perform] 6 (List.replicate (0 + 1) false) K11.ir_card_of (ds.take 0 ++ [.tuple (ds.drop 0)])⟩
theorem md_card_of_n3 : f_card_of_n3.md = [false, false, false] := rfl
def f_card_of_n2 : Fn := ⟨List.replicate (0 + 2) false, fun ds => fnRun [K11.f_listed, K11.f_cells_needed, K11.f_height_change, K11.f_generic_stack, K11.f_perform] 6 (List.replicate (0 + 1) false) K11.ir_card_of (ds.take 0 ++ [.tuple (ds.drop 0)])⟩
theorem md_card_of_n2 : f_card_of_n2.md = [false, false] := rfl
def f_card_of_n1 : Fn := ⟨List.replicate (0 + 1) false, fun ds => fnRun [K11.f_listed, K11.f_cells_needed, K11.f_height_change, K11.f_generic_stack, K11.f_perform] 6 (List.replicate (0 + 1) false) K11.ir_card_of (ds.take 0 ++ [.tuple (ds.drop 0)])⟩
theorem md_card_of_n1 : f_card_of_n1.md = [false] := rfl
def f_card_of_n0 : Fn := ⟨List.replicate (0 + 0) false, fun ds => fnRun [K11.f_listed, K11.f_cells_needed, K11.f_height_change, K11.f_generic_stack, K11.f_perform] 6 (List.replicate (0 + 1) false) K11.ir_card_of (ds.take 0 ++ [.tuple (ds.drop 0)])⟩
theorem md_card_of_n0 : f_card_of_n0.md = [] := rfl
def ir_law_after : Ss :=
    (.cons (.ife (.cmp .eq (.ix (.v 1) (.c (.int 0))) (.c (.str "pop"))) (.cons (.ret (.ite (.cmp .ne (.v 0) (.tup .nil)) (.sl (.v 0) .no (.e (.neg (.c (.int 1))))) (.c .none)))
    .nil) .nil)
    (.cons (.asg (.n 2) (.ix (.v 1) (.c (.int 1))))
    (.cons (.ife (.cmp .eq (.ix (.v 1) (.c (.int 0))) (.c (.str "dup"))) (.cons (.ret (.ite (.cmp .le (.v 2) (.blt .len (.cons (.v 0) .nil))) (.bop .add (.v 0) (.tup (.cons (.ix (.v 0) (.bop .sub (.blt .len (.cons (.v 0) .nil)) (.v 2))) .nil))) (.c .none)))
    .nil) .nil)
    (.cons (.ife (.cmp .ge (.v 2) (.blt .len (.cons (.v 0) .nil))) (.cons (.ret (.c .none))
    .nil) .nil)
    (.cons (.asg (.n 3) (.bop .sub (.bop .sub (.blt .len (.cons (.v 0) .nil)) (.c (.int 1))) (.v 2)))
    (.cons (.ret (.bop .add (.bop .add (.bop .add (.sl (.v 0) .no (.e (.v 3))) (.tup (.cons (.ix (.v 0) (.neg (.c (.int 1)))) .nil))) (.sl (.v 0) (.e (.bop .add (.v 3) (.c (.int 1)))) (.e (.neg (.c (.int 1)))))) (.tup (.cons (.ix (.v 0) (.v 3)) .nil))))
    .nil))))))
def f_law_after : Fn := ⟨[false, false], fun ds => fnRun [] 4 ([false, false] ++ List.replicate 0 false) K11.ir_law_after (ds ++ [])⟩
theorem md_law_after : f_law_after.md = [false, false] := rfl
def ir_law_led : Ss :=
    (.cons (.for_ (.n 2) (.e (.v 1)) (.cons (.ife (.isn false (.v 0)) (.cons (.asg (.n 0) (.call 0 (.cons (.v 0) (.cons (.v 2) .nil)) .nil))
    .nil) .nil)
    .nil))
    (.cons (.ret (.v 0))
    .nil))
def f_law_led : Fn := ⟨[false, false], fun ds => fnRun [K11.f_law_after] 3 ([false, false] ++ List.replicate 0 false) K11.ir_law_led (ds ++ [])⟩
theorem md_law_led : f_law_led.md = [false, false] := rfl
def ir_law_due : Ss :=
    (.cons (.asg (.n 1) (.c (.int 0)))
    (.cons (.whl 1000000 (.isn true (.call 0 (.cons (.rng true (.c (.int 1)) (.bop .add (.v 1) (.c (.int 1)))) (.cons (.v 0) .nil)) .nil)) (.cons (.asg (.n 1) (.bop .add (.v 1) (.c (.int 1))))
    .nil))
    (.cons (.ret (.tup (.cons (.v 1) (.cons (.call 0 (.cons (.rng true (.c (.int 1)) (.bop .add (.v 1) (.c (.int 1)))) (.cons (.v 0) .nil)) .nil) .nil))))
    .nil)))
def f_law_due : Fn := ⟨[false], fun ds => fnRun [K11.f_law_led] 2 ([false] ++ List.replicate 0 false) K11.ir_law_due (ds ++ [])⟩
theorem md_law_due : f_law_due.md = [false] := rfl
def ir_law_right : Ss :=
    (.cons (.asg (.n 1) (.blt .repr (.cons (.v 0) .nil)))
    (.cons (.asg (.n 2) (.call 0 (.cons (.v 0) .nil) .nil))
    (.cons (.asg (.n 3) (.bop .fdiv (.blt .len (.cons (.v 0) .nil)) (.c (.int 2))))
    (.cons (.ife (.or (.cmp .ne (.blt .repr (.cons (.call 2 (.cons (.sl (.v 0) .no (.e (.v 3))) (.cons (.blt .list (.cons (.sl (.v 0) (.e (.v 3)) .no) .nil)) .nil)) .nil) .nil)) (.blt .repr (.cons (.v 2) .nil))) (.cmp .ne (.blt .repr (.cons (.call 1 (.cons (.tup .nil) (.cons (.v 0) (.cons (.lst .nil) .nil))) .nil) .nil)) (.blt .repr (.cons (.v 2) .nil)))) (.cons (.ret (.c (.bool false)))
    .nil) .nil)
    (.cons (.ife (.and (.cmp .eq (.blt .len (.cons (.v 0) .nil)) (.c (.int 3))) (.cmp .ne (.blt .repr (.cons (.call 1 (.cons (.ix (.v 0) (.c (.int 0))) (.cons (.sl (.v 0) (.e (.c (.int 1))) (.e (.c (.int 2)))) (.cons (.ix (.v 0) (.c (.int 2))) .nil))) .nil) .nil)) (.blt .repr (.cons (.v 2) .nil)))) (.cons (.ret (.c (.bool false)))
    .nil) .nil)
    (.cons (.ret (.and (.cmp .eq (.blt .repr (.cons (.call 3 (.cons (.v 0) .nil) .nil) .nil)) (.blt .repr (.cons (.v 2) .nil))) (.cmp .eq (.blt .repr (.cons (.v 0) .nil)) (.v 1))))
    .nil))))))
def f_law_right : Fn := ⟨[false], fun ds => fnRun [K11.f_law_due, K11.f_card_of_n3, K11.f_card_of_n2, K11.f_card_of_n1] 4 ([false] ++ List.replicate 0 false) K11.ir_law_right (ds ++ [])⟩
theorem md_law_right : f_law_right.md = [false] := rfl
def ir_law : Ss :=
    (.cons (.asg (.n 1) (.call 0 (.cons (.v 0) .nil) .nil))
    (.cons (.for_ (.n 2) (.r1 (.c (.int 6))) (.cons (.asg (.n 6) (.ix (.lst (.cons (.c (.int 1)) (.cons (.c (.int 3)) (.cons (.c (.int 8)) (.cons (.c (.int 40)) .nil))))) (.call 1 (.cons (.v 1) (.cons (.c (.int 4)) .nil)) .nil)))
    (.cons (.asg (.n 7) (.call 2 (.cons (.v 1) (.cons (.call 1 (.cons (.v 1) (.cons (.ix (.lst (.cons (.c (.int 4)) (.cons (.c (.int 12)) (.cons (.c (.int 41)) .nil)))) (.bop .mod (.v 2) (.c (.int 3)))) .nil)) .nil) (.cons (.v 6) .nil))) .nil))
    (.cons (.ife (.not (.call 3 (.cons (.v 7) .nil) .nil)) (.cons (.ret (.c (.bool false)))
    .nil) .nil)
    (.cons (.asg (.n 8) (.rng true (.c (.int 1)) (.bop .add (.ix (.call 4 (.cons (.v 7) .nil) .nil) (.c (.int 0))) (.c (.int 3)))))
    (.cons (.ife (.isn true (.call 5 (.cons (.v 8) (.cons (.v 7) .nil)) .nil)) (.cons (.ret (.c (.bool false)))
    .nil) .nil)
    .nil))))))
    (.cons (.asg (.n 3) (.call 1 (.cons (.v 1) (.cons (.c (.int 30)) .nil)) .nil))
    (.cons (.asg (.n 4) (.lst (.cons (.bop .mul (.tup (.cons (.tup (.cons (.c (.str "pop")) .nil)) .nil)) (.v 3)) (.cons (.bop .mul (.tup (.cons (.tup (.cons (.c (.str "dup")) (.cons (.bop .add (.c (.int 1)) (.v 3)) .nil))) .nil)) (.c (.int 3))) (.cons (.tup (.cons (.tup (.cons (.c (.str "swap")) (.cons (.c (.int 40)) .nil))) .nil)) (.cons (.tup (.cons (.tup (.cons (.c (.str "dup")) (.cons (.c (.int 40)) .nil))) (.cons (.tup (.cons (.c (.str "pop")) .nil)) (.cons (.tup (.cons (.c (.str "pop")) .nil)) .nil)))) .nil))))))
    (.cons (.ife (.cmp .ne (.lc (.n 7) (.e (.v 4)) (.e (.not (.call 3 (.cons (.v 7) .nil) .nil))) (.v 7)) (.lst .nil)) (.cons (.ret (.c (.bool false)))
    .nil) .nil)
    (.cons (.asg (.n 5) (.bop .add (.c (.int 1)) (.call 1 (.cons (.v 1) (.cons (.c (.int 40)) .nil)) .nil)))
    (.cons (.ife (.or (.cmp .ne (.call 4 (.cons (.rep (.lst (.cons (.tup (.cons (.c (.str "pop")) .nil)) .nil)) (.c (.int 600))) .nil) .nil) (.tup (.cons (.c (.int 600)) (.cons (.tup .nil) .nil)))) (.cmp .ne (.call 4 (.cons (.tup (.cons (.c (.str "pop")) .nil)) .nil) .nil) (.tup (.cons (.c (.int 1)) (.cons (.tup .nil) .nil))))) (.cons (.ret (.c (.bool false)))
    .nil) .nil)
    (.cons (.ife (.cmp .ne (.call 6 (.cons (.tup (.cons (.c (.str "dup")) (.cons (.v 5) .nil))) (.cons (.tup (.cons (.c (.str "pop")) .nil)) .nil)) .nil) (.tup (.cons (.v 5) (.cons (.rng true (.c (.int 1)) (.bop .add (.v 5) (.c (.int 1)))) .nil)))) (.cons (.ret (.c (.bool false)))
    .nil) .nil)
    (.cons (.ret (.chn .eq .eq (.blt .repr (.cons (.gc "NOTHING" (.tuple [(.int 0), (.tuple [])])) .nil)) (.blt .repr (.cons (.call 7 .nil .nil) .nil)) (.c (.str "(0, ())"))))
    .nil)))))))))
def f_law : Fn := ⟨[false], fun ds => fnRun [K11.f_law_pen, K11.f_law_pick, K11.f_law_deeds, K11.f_law_right, K11.f_card_of_n1, K11.f_law_led, K11.f_card_of_n2, K11.f_card_of_n0] 9 ([false] ++ List.replicate 0 false) K11.ir_law (ds ++ [])⟩
theorem md_law : f_law.md = [false] := rfl
end K11
namespace K88
open PySem PySem.Spec PyProof.Rows L2 Di
def ir_law_draw : Ss :=
    (.cons (.ife (.cmp .gt (.ix (.v 0) (.c (.int 2))) (.c (.int 0))) (.cons (.asg (.n 5) (.bop .mod (.ix (.v 0) (.c (.int 2))) (.v 1)))
    (.cons (.six 0 (.c (.int 2)) (.bop .fdiv (.ix (.v 0) (.c (.int 2))) (.v 1)))
    (.cons (.ret (.v 5))
    .nil))) .nil)
    (.cons (.asg (.n 2) (.ix (.v 0) (.c (.int 1))))
    (.cons (.six 0 (.c (.int 1)) (.bop .add (.v 2) (.c (.int 1))))
    (.cons (.asg (.n 3) (.bop .add (.bop .mul (.c (.int 71263)) (.v 2)) (.c (.int 83))))
    (.cons (.ife (.cmp .ne (.ix (.v 0) (.c (.int 0))) (.lst .nil)) (.cons (.asg (.n 3) (.ix (.ix (.v 0) (.c (.int 0))) (.bop .mod (.v 2) (.blt .len (.cons (.ix (.v 0) (.c (.int 0))) .nil)))))
    .nil) .nil)
    (.cons (.ife (.and (.cmp .lt (.v 2) (.blt .len (.cons (.ix (.v 0) (.c (.int 0))) .nil))) (.cmp .ge (.blt .abs (.cons (.v 3) .nil)) (.bop .pow (.c (.int 10)) (.c (.int 18))))) (.cons (.asg (.n 6) (.bop .add (.bop .mul (.c (.int 2)) (.bop .sub (.blt .abs (.cons (.v 3) .nil)) (.bop .pow (.c (.int 10)) (.c (.int 18))))) (.blt .int (.cons (.cmp .lt (.v 3) (.c (.int 0))) .nil))))
    (.cons (.six 0 (.c (.int 2)) (.bop .fdiv (.v 6) (.v 1)))
    (.cons (.ret (.bop .mod (.v 6) (.v 1)))
    .nil))) .nil)
    (.cons (.asg (.n 4) (.bop .mod (.bop .pow (.bop .add (.bop .add (.bop .mod (.v 3) (.c (.int 2147483579))) (.bop .mul (.c (.int 52027)) (.v 2))) (.c (.int 43))) (.c (.int 5))) (.c (.int 2147483647))))
    (.cons (.asg (.n 4) (.bop .mod (.bop .pow (.bop .add (.bop .add (.bop .mul (.v 4) (.bop .add (.bop .mul (.c (.int 2)) (.v 2)) (.c (.int 11)))) (.bop .mul (.bop .mul (.c (.int 73009)) (.v 2)) (.v 2))) (.c (.int 17))) (.c (.int 3))) (.c (.int 2147483563))))
    (.cons (.ret (.bop .mod (.bop .fdiv (.v 4) (.c (.int 32))) (.v 1)))
    .nil)))))))))
def f_law_draw : Fn := ⟨[true, false], fun ds => fnRun [] 7 ([true, false] ++ List.replicate 0 false) K88.ir_law_draw (ds ++ [])⟩
theorem md_law_draw : f_law_draw.md = [true, false] := rfl
def ir_law_values : Ss :=
    (.cons (.asg (.n 2) (.lst (.cons (.c (.str "a")) (.cons (.c (.str "b")) (.cons (.c (.str "c")) (.cons (.c (.str "ab")) (.cons (.c (.str "ba")) (.cons (.c (.str "z")) (.cons (.c (.str "aa")) (.cons (.c (.str "hh")) (.cons (.c (.str "abcdefgh")) (.cons (.c (.str "zzzzzzzz")) (.cons (.c (.str "q")) (.cons (.c (.str "x")) .nil))))))))))))))
    (.cons (.ret (.lc (.n 3) (.r1 (.bop .add (.c (.int 1)) (.call 0 (.cons (.v 0) (.cons (.v 1) .nil)) .nil))) .no (.popi 2 (.call 0 (.cons (.v 0) (.cons (.blt .len (.cons (.v 2) .nil)) .nil)) .nil))))
    .nil))
def f_law_values : Fn := ⟨[true, false], fun ds => fnRun [K88.f_law_draw] 4 ([true, false] ++ List.replicate 0 false) K88.ir_law_values (ds ++ [])⟩
theorem md_law_values : f_law_values.md = [true, false] := rfl
def ir_law_stack : Ss :=
    (.cons (.asg (.n 3) (.ix (.lst (.cons (.call 0 (.cons (.v 0) (.cons (.bop .add (.v 2) (.c (.int 1))) .nil)) .nil) (.cons (.call 0 (.cons (.v 0) (.cons (.bop .add (.blt .min (.cons (.v 2) (.cons (.c (.int 6)) .nil))) (.c (.int 1))) .nil)) .nil) (.cons (.v 2) .nil)))) (.call 0 (.cons (.v 0) (.cons (.c (.int 3)) .nil)) .nil)))
    (.cons (.asg (.n 4) (.call 0 (.cons (.v 0) (.cons (.c (.int 3)) .nil)) .nil))
    (.cons (.asg (.n 5) (.lst .nil))
    (.cons (.for_ (.n 6) (.r1 (.v 3)) (.cons (.exp (.app 5 (.ix (.lst (.cons (.ix (.v 1) (.call 0 (.cons (.v 0) (.cons (.blt .len (.cons (.v 1) .nil)) .nil)) .nil)) (.cons (.ix (.v 1) (.bop .mod (.v 6) (.blt .len (.cons (.v 1) .nil)))) .nil))) (.blt .int (.cons (.cmp .eq (.v 4) (.c (.int 2))) .nil)))))
    (.cons (.ife (.and (.cmp .eq (.v 4) (.c (.int 1))) (.and (.cmp .gt (.v 6) (.c (.int 0))) (.cmp .eq (.call 0 (.cons (.v 0) (.cons (.c (.int 2)) .nil)) .nil) (.c (.int 0))))) (.cons (.six 5 (.v 6) (.ix (.v 5) (.bop .sub (.v 6) (.c (.int 1)))))
    .nil) .nil)
    .nil)))
    (.cons (.ret (.blt .tuple (.cons (.v 5) .nil)))
    .nil)))))
def f_law_stack : Fn := ⟨[true, false, false], fun ds => fnRun [K88.f_law_draw] 7 ([true, false, false] ++ List.replicate 0 false) K88.ir_law_stack (ds ++ [])⟩
theorem md_law_stack : f_law_stack.md = [true, false, false] := rfl
def ir_law_target : Ss :=
    (.cons (.asg (.n 4) (.call 0 (.cons (.v 0) (.cons (.c (.int 5)) .nil)) .nil))
    (.cons (.ife (.cmp .eq (.v 4) (.c (.int 0))) (.cons (.ret (.call 1 (.cons (.v 0) (.cons (.v 2) (.cons (.v 3) .nil))) .nil))
    .nil) .nil)
    (.cons (.asg (.n 5) (.call 0 (.cons (.v 0) (.cons (.bop .add (.blt .min (.cons (.blt .len (.cons (.v 1) .nil)) (.cons (.v 3) .nil))) (.c (.int 1))) .nil)) .nil))
    (.cons (.asg (.n 6) (.or (.blt .list (.cons (.sl (.v 1) (.e (.v 5)) .no) .nil)) (.v 2)))
    (.cons (.ife (.cmp .lt (.v 4) (.c (.int 3))) (.cons (.asg (.n 6) (.sl (.v 6) .no (.e (.bop .add (.c (.int 1)) (.call 0 (.cons (.v 0) (.cons (.blt .len (.cons (.v 6) .nil)) .nil)) .nil)))))
    .nil) .nil)
    (.cons (.asg (.n 7) (.call 0 (.cons (.v 0) (.cons (.bop .add (.bop .sub (.v 3) (.v 5)) (.c (.int 1))) .nil)) .nil))
    (.cons (.asg (.n 8) (.bop .add (.blt .list (.cons (.sl (.v 1) .no (.e (.v 5))) .nil)) (.lc (.n 9) (.r1 (.v 7)) .no (.ix (.v 6) (.call 0 (.cons (.v 0) (.cons (.blt .len (.cons (.v 6) .nil)) .nil)) .nil)))))
    (.cons (.ife (.and (.cmp .eq (.v 4) (.c (.int 4))) (.cmp .ne (.v 8) (.lst .nil))) (.cons (.six 8 (.call 0 (.cons (.v 0) (.cons (.blt .len (.cons (.v 8) .nil)) .nil)) .nil) (.ix (.v 2) (.call 0 (.cons (.v 0) (.cons (.blt .len (.cons (.v 2) .nil)) .nil)) .nil)))
    .nil) .nil)
    (.cons (.ret (.blt .tuple (.cons (.v 8) .nil)))
    .nil)))))))))
def f_law_target : Fn := ⟨[true, false, false, false], fun ds => fnRun [K88.f_law_draw, K88.f_law_stack] 10 ([true, false, false, false] ++ List.replicate 0 false) K88.ir_law_target (ds ++ [])⟩
theorem md_law_target : f_law_target.md = [true, false, false, false] := rfl
def ir_law_constants : Ss :=
    (.cons (.asg (.n 2) (.lst .nil))
    (.cons (.for_ (.n 3) (.r1 (.ix (.lst (.cons (.c (.int 0)) (.cons (.c (.int 1)) (.cons (.c (.int 2)) (.cons (.call 0 (.cons (.v 0) (.cons (.c (.int 9)) .nil)) .nil) .nil))))) (.call 0 (.cons (.v 0) (.cons (.c (.int 4)) .nil)) .nil))) (.cons (.exp (.app 2 (.ix (.lst (.cons (.ix (.v 1) (.call 0 (.cons (.v 0) (.cons (.blt .len (.cons (.v 1) .nil)) .nil)) .nil)) (.cons (.ix (.lst (.cons (.c (.str "kk")) (.cons (.c (.str "a")) (.cons (.c (.str "mm")) .nil)))) (.call 0 (.cons (.v 0) (.cons (.c (.int 3)) .nil)) .nil)) .nil))) (.call 0 (.cons (.v 0) (.cons (.c (.int 2)) .nil)) .nil))))
    .nil))
    (.cons (.ret (.blt .tuple (.cons (.v 2) .nil)))
    .nil)))
def f_law_constants : Fn := ⟨[true, false], fun ds => fnRun [K88.f_law_draw] 4 ([true, false] ++ List.replicate 0 false) K88.ir_law_constants (ds ++ [])⟩
theorem md_law_constants : f_law_constants.md = [true, false] := rfl
def ir_law_reach : Ss :=
    (.cons (.ret (.ix (.lst (.cons (.c (.int 2)) (.cons (.c (.int 2)) (.cons (.c (.int 3)) (.cons (.c (.int 4)) (.cons (.bop .add (.c (.int 2)) (.call 0 (.cons (.v 0) (.cons (.c (.int 39)) .nil)) .nil)) (.cons (.c (.int 40)) .nil))))))) (.call 0 (.cons (.v 0) (.cons (.c (.int 6)) .nil)) .nil)))
    .nil)
def f_law_reach : Fn := ⟨[true], fun ds => fnRun [K88.f_law_draw] 1 ([true] ++ List.replicate 0 false) K88.ir_law_reach (ds ++ [])⟩
theorem md_law_reach : f_law_reach.md = [true] := rfl
def ir_depth_beside : Ss :=
    (.cons (.asg (.n 3) .dic0)
    (.cons (.for_ (.n 4) (.rvr (.blt .len (.cons (.v 0) .nil))) (.cons (.ife (.cmp .notin (.ix (.v 0) (.v 4)) (.v 1)) (.cons (.dst 3 (.ix (.v 0) (.v 4)) (.c (.bool true)))
    .nil) .nil)
    (.cons (.ife (.cmp .gt (.blt .len (.cons (.v 3) .nil)) (.v 2)) (.cons (.ret (.v 4))
    .nil) .nil)
    .nil)))
    (.cons (.ret (.c (.int 0)))
    .nil)))
def f_depth_beside : Fn := ⟨[false, false, false], fun ds => fnRun [] 5 ([false, false, false] ++ List.replicate 0 false) K88.ir_depth_beside (ds ++ [])⟩
theorem md_depth_beside : f_depth_beside.md = [false, false, false] := rfl
def ir_common_prefix : Ss :=
    (.cons (.for_ (.p 2 3 4) (.ez (.v 0) (.v 1)) (.cons (.ife (.cmp .ne (.v 3) (.v 4)) (.cons (.ret (.v 2))
    .nil) .nil)
    .nil))
    (.cons (.ret (.blt .min (.cons (.blt .len (.cons (.v 0) .nil)) (.cons (.blt .len (.cons (.v 1) .nil)) .nil))))
    .nil))
def f_common_prefix : Fn := ⟨[false, false], fun ds => fnRun [] 5 ([false, false] ++ List.replicate 0 false) K88.ir_common_prefix (ds ++ [])⟩
theorem md_common_prefix : f_common_prefix.md = [false, false] := rfl
def ir_obstacle : Ss :=
    (.cons (.asg (.n 4) (.blt .len (.cons (.v 1) .nil)))
    (.cons (.asg (.n 5) (.call 0 (.cons (.v 0) (.cons (.v 1) .nil)) .nil))
    (.cons (.ife (.cmp .lt (.v 5) (.v 4)) (.cons (.ret (.tup (.cons (.c (.str "ground")) (.cons (.v 5) .nil))))
    .nil) .nil)
    (.cons (.asg (.n 6) (.srd (.v 2) (.sl (.v 0) (.e (.v 4)) .no)))
    (.cons (.ife (.cmp .ne (.v 6) (.lst .nil)) (.cons (.ret (.tup (.cons (.c (.str "missing")) (.cons (.ix (.v 6) (.c (.int 0))) .nil))))
    .nil) .nil)
    (.cons (.ife (.and (.cmp .gt (.blt .len (.cons (.v 2) .nil)) (.v 3)) (.cmp .notin (.ix (.v 0) (.v 4)) (.v 2))) (.cons (.ret (.tup (.cons (.c (.str "edge")) (.cons (.v 2) .nil))))
    .nil) .nil)
    (.cons (.ret (.tup (.cons (.c .none) (.cons (.c .none) .nil))))
    .nil)))))))
def f_obstacle : Fn := ⟨[false, false, false, false], fun ds => fnRun [K88.f_common_prefix] 7 ([false, false, false, false] ++ List.replicate 0 false) K88.ir_obstacle (ds ++ [])⟩
theorem md_obstacle : f_obstacle.md = [false, false, false, false] := rfl
def ir_decide_beside : Ss :=
    (.cons (.asg (.n 4) (.call 0 (.cons (.v 1) (.cons (.v 2) (.cons (.v 3) .nil))) .nil))
    (.cons (.asg (.n 5) (.blt .tuple (.cons (.srd (.sl (.v 1) (.e (.v 4)) .no) (.v 2)) .nil)))
    (.cons (.asg (.t [7, 8]) (.call 1 (.cons (.v 0) (.cons (.sl (.v 1) .no (.e (.v 4))) (.cons (.v 5) (.cons (.v 3) .nil)))) .nil))
    (.cons (.ife (.isn true (.v 7)) (.cons (.ret (.tup (.cons (.c (.str "reached")) (.cons (.v 4) .nil))))
    .nil) .nil)
    (.cons (.asg (.n 6) (.ite (.cmp .gt (.v 4) (.c (.int 0))) (.v 5) (.tup .nil)))
    (.cons (.ret (.tup (.cons (.c (.str "blocked")) (.cons (.tup (.cons (.v 4) (.cons (.v 6) (.cons (.v 7) (.cons (.v 8) .nil))))) .nil))))
    .nil))))))
def f_decide_beside : Fn := ⟨[false, false, false, false], fun ds => fnRun [K88.f_depth_beside, K88.f_obstacle] 9 ([false, false, false, false] ++ List.replicate 0 false) K88.ir_decide_beside (ds ++ [])⟩
theorem md_decide_beside : f_decide_beside.md = [false, false, false, false] := rfl
def ir_decide_with : Ss :=
    (.cons (.ret (.call 0 (.cons (.v 0) (.cons (.v 1) (.cons (.v 2) (.cons (.v 3) .nil)))) .nil))
    .nil)
def f_decide_with_kw_constants_reach : Fn := ⟨[false, false, false, false], fun ds => fnRun [K88.f_decide_beside] 4 ([false, false, false, false] ++ List.replicate 0 false) K88.ir_decide_with (ds ++ [])⟩
theorem md_decide_with_kw_constants_reach : f_decide_with_kw_constants_reach.md = [false, false, false, false] := rfl
def ir_reaches_with : Ss :=
    (.cons (.ret (.cmp .eq (.ix (.call 0 (.cons (.v 0) (.cons (.v 1) .nil)) (.cons (.v 2) (.cons (.v 3) .nil))) (.c (.int 0))) (.c (.str "reached"))))
    .nil)
def f_reaches_with_kw_constants_reach : Fn := ⟨[false, false, false, false], fun ds => fnRun [K88.f_decide_with_kw_constants_reach] 4 ([false, false, false, false] ++ List.replicate 0 false) K88.ir_reaches_with (ds ++ [])⟩
theorem md_reaches_with_kw_constants_reach : f_reaches_with_kw_constants_reach.md = [false, false, false, false] := rfl
def ir_law_bare : Ss :=
    (.cons (.ret (.srt (.lc (.n 2) (.e (.v 0)) (.e (.cmp .notin (.v 2) (.v 1))) (.v 2))))
    .nil)
def f_law_bare : Fn := ⟨[false, false], fun ds => fnRun [] 3 ([false, false] ++ List.replicate 0 false) K88.ir_law_bare (ds ++ [])⟩
theorem md_law_bare : f_law_bare.md = [false, false] := rfl
def ir_law_decided : Ss :=
    (.cons (.asg (.n 4) (.c (.int 0)))
    (.cons (.whl 1000000 (.cmp .gt (.blt .len (.cons (.call 0 (.cons (.sl (.v 1) (.e (.bop .add (.v 4) (.c (.int 1)))) .no) (.cons (.v 2) .nil)) .nil) .nil)) (.v 3)) (.cons (.asg (.n 4) (.bop .add (.v 4) (.c (.int 1))))
    .nil))
    (.cons (.asg (.n 5) (.call 0 (.cons (.sl (.v 1) (.e (.v 4)) .no) (.cons (.v 2) .nil)) .nil))
    (.cons (.asg (.n 6) (.ite (.cmp .gt (.v 4) (.c (.int 0))) (.blt .tuple (.cons (.sl (.v 5) .no (.e (.bop .add (.v 3) (.c (.int 1))))) .nil)) (.tup .nil)))
    (.cons (.asg (.n 7) (.lc (.n 9) (.r1 (.v 4)) (.e (.cmp .ne (.sl (.v 0) (.e (.v 9)) (.e (.bop .add (.v 9) (.c (.int 1))))) (.sl (.v 1) (.e (.v 9)) (.e (.bop .add (.v 9) (.c (.int 1))))))) (.v 9)))
    (.cons (.asg (.n 8) (.lc (.n 10) (.e (.v 5)) (.e (.cmp .notin (.v 10) (.sl (.v 0) (.e (.v 4)) .no))) (.v 10)))
    (.cons (.ife (.cmp .ne (.v 7) (.lst .nil)) (.cons (.ret (.tup (.cons (.c (.str "blocked")) (.cons (.tup (.cons (.v 4) (.cons (.v 6) (.cons (.c (.str "ground")) (.cons (.ix (.v 7) (.c (.int 0))) .nil))))) .nil))))
    .nil) .nil)
    (.cons (.ife (.cmp .ne (.v 8) (.lst .nil)) (.cons (.ret (.tup (.cons (.c (.str "blocked")) (.cons (.tup (.cons (.v 4) (.cons (.v 6) (.cons (.c (.str "missing")) (.cons (.ix (.v 8) (.c (.int 0))) .nil))))) .nil))))
    .nil) .nil)
    (.cons (.ife (.and (.cmp .gt (.blt .len (.cons (.v 5) .nil)) (.v 3)) (.cmp .notin (.ix (.v 0) (.v 4)) (.v 5))) (.cons (.ret (.tup (.cons (.c (.str "blocked")) (.cons (.tup (.cons (.v 4) (.cons (.v 6) (.cons (.c (.str "edge")) (.cons (.blt .tuple (.cons (.sl (.v 5) .no (.e (.bop .add (.v 3) (.c (.int 1))))) .nil)) .nil))))) .nil))))
    .nil) .nil)
    (.cons (.ret (.tup (.cons (.c (.str "reached")) (.cons (.v 4) .nil))))
    .nil))))))))))
def f_law_decided : Fn := ⟨[false, false, false, false], fun ds => fnRun [K88.f_law_bare] 11 ([false, false, false, false] ++ List.replicate 0 false) K88.ir_law_decided (ds ++ [])⟩
theorem md_law_decided : f_law_decided.md = [false, false, false, false] := rfl
def ir_law_right : Ss :=
    (.cons (.asg (.n 4) (.call 0 (.cons (.v 0) (.cons (.v 1) (.cons (.v 2) (.cons (.v 3) .nil)))) .nil))
    (.cons (.ife (.cmp .ne (.blt .repr (.cons (.call 1 (.cons (.v 0) (.cons (.v 1) .nil)) (.cons (.v 2) (.cons (.v 3) .nil))) .nil)) (.blt .repr (.cons (.v 4) .nil))) (.cons (.ret (.c (.bool false)))
    .nil) .nil)
    (.cons (.ife (.cmp .ne (.call 1 (.cons (.v 0) (.cons (.v 1) .nil)) (.cons (.rev (.bop .add (.v 2) (.v 2))) (.cons (.v 3) .nil))) (.v 4)) (.cons (.ret (.c (.bool false)))
    .nil) .nil)
    (.cons (.asg (.n 5) (.call 2 (.cons (.v 0) (.cons (.v 1) .nil)) (.cons (.v 2) (.cons (.v 3) .nil))))
    (.cons (.ret (.and (.isi .bool (.v 5)) (.cmp .eq (.v 5) (.cmp .eq (.ix (.v 4) (.c (.int 0))) (.c (.str "reached"))))))
    .nil)))))
def f_law_right : Fn := ⟨[false, false, false, false], fun ds => fnRun [K88.f_law_decided, K88.f_decide_with_kw_constants_reach, K88.f_reaches_with_kw_constants_reach] 6 ([false, false, false, false] ++ List.replicate 0 false) K88.ir_law_right (ds ++ [])⟩
theorem md_law_right : f_law_right.md = [false, false, false, false] := rfl
def ir_law : Ss :=
    (.cons (.asg (.n 1) (.call 0 (.cons (.v 0) .nil) .nil))
    (.cons (.for_ (.n 2) (.r1 (.c (.int 4))) (.cons (.asg (.n 3) (.call 1 (.cons (.v 1) (.cons (.c (.int 10)) .nil)) .nil))
    (.cons (.asg (.n 4) (.call 2 (.cons (.v 1) (.cons (.v 3) (.cons (.c (.int 30)) .nil))) .nil))
    (.cons (.asg (.n 5) (.call 3 (.cons (.v 1) (.cons (.v 4) (.cons (.v 3) (.cons (.c (.int 30)) .nil)))) .nil))
    (.cons (.asg (.n 6) (.call 4 (.cons (.v 1) (.cons (.v 3) .nil)) .nil))
    (.cons (.asg (.n 7) (.call 5 (.cons (.v 1) .nil) .nil))
    (.cons (.ife (.or (.not (.call 6 (.cons (.v 4) (.cons (.v 5) (.cons (.v 6) (.cons (.v 7) .nil)))) .nil)) (.not (.call 6 (.cons (.v 5) (.cons (.v 4) (.cons (.v 6) (.cons (.v 7) .nil)))) .nil))) (.cons (.ret (.c (.bool false)))
    .nil) .nil)
    (.cons (.ife (.not (.call 6 (.cons (.v 4) (.cons (.v 5) (.cons (.bop .add (.v 6) (.sl (.v 5) .no (.e (.c (.int 4))))) (.cons (.v 7) .nil)))) .nil)) (.cons (.ret (.c (.bool false)))
    .nil) .nil)
    (.cons (.ife (.cmp .ne (.call 7 (.cons (.v 4) (.cons (.v 5) .nil)) (.cons (.v 5) (.cons (.v 7) .nil))) (.tup (.cons (.c (.str "reached")) (.cons (.c (.int 0)) .nil)))) (.cons (.ret (.c (.bool false)))
    .nil) .nil)
    .nil)))))))))
    (.cons (.ret (.cmp .isb (.call 8 (.cons (.tup (.cons (.c (.str "a")) (.cons (.c (.str "b")) (.cons (.c (.str "c")) (.cons (.c (.str "d")) .nil))))) (.cons (.tup (.cons (.c (.str "b")) (.cons (.c (.str "c")) (.cons (.c (.str "d")) .nil)))) .nil)) (.cons (.tup (.cons (.c (.str "d")) .nil)) (.cons (.c (.int 2)) .nil))) (.c (.bool true))))
    .nil)))
def f_law : Fn := ⟨[false], fun ds => fnRun [K11.f_law_pen, K88.f_law_values, K88.f_law_stack, K88.f_law_target, K88.f_law_constants, K88.f_law_reach, K88.f_law_right, K88.f_decide_with_kw_constants_reach, K88.f_reaches_with_kw_constants_reach] 8 ([false] ++ List.replicate 0 false) K88.ir_law (ds ++ [])⟩
theorem md_law : f_law.md = [false] := rfl
end K88
namespace K44
open PySem PySem.Spec PyProof.Rows L2 Di
def ir_decide : Ss :=
    (.cons (.ret (.call 0 (.cons (.v 0) (.cons (.v 1) (.cons (.tup .nil) (.cons (.v 2) .nil)))) .nil))
    .nil)
def f_decide_kw_reach : Fn := ⟨[false, false, false], fun ds => fnRun [K88.f_decide_beside] 3 ([false, false, false] ++ List.replicate 0 false) K44.ir_decide (ds ++ [])⟩
theorem md_decide_kw_reach : f_decide_kw_reach.md = [false, false, false] := rfl
def ir_reaches : Ss :=
    (.cons (.ret (.cmp .eq (.ix (.call 0 (.cons (.v 0) (.cons (.v 1) .nil)) (.cons (.v 2) .nil)) (.c (.int 0))) (.c (.str "reached"))))
    .nil)
def f_reaches_kw_reach : Fn := ⟨[false, false, false], fun ds => fnRun [K44.f_decide_kw_reach] 3 ([false, false, false] ++ List.replicate 0 false) K44.ir_reaches (ds ++ [])⟩
theorem md_reaches_kw_reach : f_reaches_kw_reach.md = [false, false, false] := rfl
def ir_helpful_pushes : Ss :=
    (.cons (.ret (.lc (.n 3) (.e (.srt (.v 1))) (.e (.call 0 (.cons (.bop .add (.v 0) (.tup (.cons (.v 3) .nil))) (.cons (.v 1) .nil)) (.cons (.v 2) .nil))) (.v 3)))
    .nil)
def f_helpful_pushes_kw_reach : Fn := ⟨[false, false, false], fun ds => fnRun [K44.f_reaches_kw_reach] 4 ([false, false, false] ++ List.replicate 0 false) K44.ir_helpful_pushes (ds ++ [])⟩
theorem md_helpful_pushes_kw_reach : f_helpful_pushes_kw_reach.md = [false, false, false] := rfl
def ir_law_is_reached : Ss :=
    (.cons (.asg (.n 3) (.c (.int 0)))
    (.cons (.whl 1000000 (.cmp .gt (.lns (.sl (.v 1) (.e (.bop .add (.v 3) (.c (.int 1)))) .no)) (.v 2)) (.cons (.asg (.n 3) (.bop .add (.v 3) (.c (.int 1))))
    .nil))
    (.cons (.asg (.n 4) (.srt (.sl (.v 1) (.e (.v 3)) .no)))
    (.cons (.ife (.or (.cmp .ne (.sl (.v 0) .no (.e (.v 3))) (.sl (.v 1) .no (.e (.v 3)))) (.cmp .ne (.lc (.n 5) (.e (.v 4)) (.e (.cmp .notin (.v 5) (.sl (.v 0) (.e (.v 3)) .no))) (.v 5)) (.lst .nil))) (.cons (.ret (.c (.bool false)))
    .nil) .nil)
    (.cons (.ret (.or (.cmp .le (.blt .len (.cons (.v 4) .nil)) (.v 2)) (.cmp .isin (.ix (.v 0) (.v 3)) (.v 4))))
    .nil)))))
def f_law_is_reached : Fn := ⟨[false, false, false], fun ds => fnRun [] 6 ([false, false, false] ++ List.replicate 0 false) K44.ir_law_is_reached (ds ++ [])⟩
theorem md_law_is_reached : f_law_is_reached.md = [false, false, false] := rfl
def ir_law : Ss :=
    (.cons (.asg (.n 1) (.call 0 (.cons (.v 0) .nil) .nil))
    (.cons (.for_ (.n 2) (.r1 (.c (.int 4))) (.cons (.asg (.n 3) (.call 1 (.cons (.v 1) (.cons (.c (.int 10)) .nil)) .nil))
    (.cons (.asg (.n 4) (.call 2 (.cons (.v 1) (.cons (.v 3) (.cons (.c (.int 39)) .nil))) .nil))
    (.cons (.asg (.n 5) (.call 3 (.cons (.v 1) (.cons (.v 4) (.cons (.v 3) (.cons (.c (.int 40)) .nil)))) .nil))
    (.cons (.asg (.n 6) (.call 4 (.cons (.v 1) .nil) .nil))
    (.cons (.asg (.n 7) (.lc (.n 10) (.e (.srt (.v 5))) (.e (.call 5 (.cons (.bop .add (.v 4) (.tup (.cons (.v 10) .nil))) (.cons (.v 5) (.cons (.v 6) .nil))) .nil)) (.v 10)))
    (.cons (.asg (.n 8) (.blt .repr (.cons (.tup (.cons (.v 4) (.cons (.v 5) .nil))) .nil)))
    (.cons (.asg (.n 9) (.call 6 (.cons (.v 4) (.cons (.v 5) .nil)) (.cons (.v 6) .nil)))
    (.cons (.ife (.or (.cmp .ne (.blt .repr (.cons (.v 9) .nil)) (.blt .repr (.cons (.v 7) .nil))) (.cmp .ne (.blt .repr (.cons (.tup (.cons (.v 4) (.cons (.v 5) .nil))) .nil)) (.v 8))) (.cons (.ret (.c (.bool false)))
    .nil) .nil)
    (.cons (.ife (.and (.call 7 (.cons (.v 4) (.cons (.v 5) .nil)) (.cons (.v 6) .nil)) (.cmp .ne (.v 9) (.srt (.v 5)))) (.cons (.ret (.c (.bool false)))
    .nil) .nil)
    (.cons (.exp (.app 9 (.c (.str "a"))))
    (.cons (.ife (.cmp .ne (.blt .repr (.cons (.call 6 (.cons (.v 4) (.cons (.v 5) .nil)) (.cons (.v 6) .nil)) .nil)) (.blt .repr (.cons (.v 7) .nil))) (.cons (.ret (.c (.bool false)))
    .nil) .nil)
    .nil))))))))))))
    (.cons (.ret (.cmp .eq (.call 6 (.cons (.tup (.cons (.c (.str "a")) (.cons (.c (.str "b")) (.cons (.c (.str "c")) .nil)))) (.cons (.tup (.cons (.c (.str "a")) (.cons (.c (.str "b")) (.cons (.c (.str "c")) (.cons (.c (.str "a")) .nil))))) .nil)) (.cons (.c (.int 2)) .nil)) (.lst (.cons (.c (.str "a")) .nil))))
    .nil)))
def f_law : Fn := ⟨[false], fun ds => fnRun [K11.f_law_pen, K88.f_law_values, K88.f_law_stack, K88.f_law_target, K88.f_law_reach, K44.f_law_is_reached, K44.f_helpful_pushes_kw_reach, K44.f_reaches_kw_reach] 11 ([false] ++ List.replicate 0 false) K44.ir_law (ds ++ [])⟩
theorem md_law : f_law.md = [false] := rfl
end K44
/-! words in sets, depths, prefixes -/
namespace Wd
open PySem Di SS
theorem srt_eq {l m : List Str} (n1 : l.Nodup) (n2 : m.Nodup) (h : ∀ x, x ∈ l ↔ x ∈ m) : srtS l = srtS m := by
  have p : l.Perm m := (List.perm_ext_iff_of_nodup n1 n2).mpr h
  exact List.Perm.eq_of_pairwise (le := fun a b => leS a b = true) (fun a b _ _ h g => leS_anti h g) srt_asc srt_asc ((srt_perm.trans p).trans srt_perm.symm)
theorem srt_self {l : List Str} (h : Asc l) : srtS l = l :=
  List.Perm.eq_of_pairwise (le := fun a b => leS a b = true) (fun a b _ _ h g => leS_anti h g) srt_asc h srt_perm
theorem srt_nodup {l : List Str} (h : l.Nodup) : (srtS l).Nodup := srt_perm.nodup_iff.mpr h
theorem mem_srt {l : List Str} {x : Str} : x ∈ srtS l ↔ x ∈ l := srt_perm.mem_iff
theorem len_srt {l : List Str} : (srtS l).length = l.length := srt_perm.length_eq
/-- the values that are not constants, ascending -/
def bare (ws cs : List Str) : List Str := srtS (less (once ws) (once cs))
theorem less_nodup {l m : List Str} (h : l.Nodup) : (less l m).Nodup := h.sublist List.filter_sublist
theorem mem_less {l m : List Str} {x : Str} : x ∈ less l m ↔ x ∈ l ∧ x ∉ m := by unfold less; simp
theorem mem_bare {ws cs : List Str} {x : Str} : x ∈ bare ws cs ↔ x ∈ ws ∧ x ∉ cs := by
  unfold bare
  rw [mem_srt, mem_less, mem_once, mem_once]
theorem bare_nodup {ws cs : List Str} : (bare ws cs).Nodup := srt_nodup (less_nodup (once_nodup _))
theorem bare_asc {ws cs : List Str} : Asc (bare ws cs) := srt_asc
theorem bare_eq {ws cs : List Str} : srtS (once (ws.filter fun z => decide (z ∉ cs))) = bare ws cs := by
  refine srt_eq (once_nodup _) (less_nodup (once_nodup _)) fun x => ?_
  rw [mem_once, mem_less, mem_once, mem_once]
  simp
theorem bare_congr {ws cs cs' : List Str} (h : ∀ x, x ∈ cs ↔ x ∈ cs') : bare ws cs = bare ws cs' := by
  refine srt_eq (less_nodup (once_nodup _)) (less_nodup (once_nodup _)) fun x => ?_
  rw [mem_less, mem_less, mem_once, mem_once, mem_once, h]
def cnt (ws cs : List Str) : Nat := (bare ws cs).length
theorem cnt_mono {ws us cs : List Str} (h : ∀ x ∈ ws, x ∈ us) : cnt ws cs ≤ cnt us cs :=
  List.Nodup.length_le_of_subset bare_nodup fun x hx => mem_bare.mpr ⟨h x (mem_bare.mp hx).1, (mem_bare.mp hx).2⟩
theorem cnt_cons {w : Str} {ws cs : List Str} : cnt (w :: ws) cs ≤ cnt ws cs + 1 := by
  have h : (bare (w :: ws) cs).length ≤ (w :: bare ws cs).length := List.Nodup.length_le_of_subset bare_nodup fun x hx => by
    obtain ⟨h1, h2⟩ := mem_bare.mp hx
    rcases List.mem_cons.mp h1 with rfl | h1
    · exact List.mem_cons_self
    · exact List.mem_cons_of_mem _ (mem_bare.mpr ⟨h1, h2⟩)
  rw [List.length_cons] at h
  exact h
theorem cnt_nil {cs : List Str} : cnt [] cs = 0 := by
  unfold cnt
  rw [List.length_eq_zero_iff, List.eq_nil_iff_forall_not_mem]
  intro x hx
  have := (mem_bare.mp hx).1
  cases this
theorem cnt_of {us ws cs : List Str} (n : us.Nodup) (h : ∀ x, x ∈ us ↔ (x ∈ ws ∧ x ∉ cs)) : us.length = cnt ws cs :=
  ((List.perm_ext_iff_of_nodup n bare_nodup).mpr fun x => by rw [h, mem_bare]).length_eq
/-- the depth -/
def dep (k : Nat) (cs : List Str) : List Str → Nat
  | [] => 0
  | _ :: ws => if k < cnt ws cs then dep k cs ws + 1 else 0
theorem dep_le {k : Nat} {cs : List Str} : ∀ ws : List Str, dep k cs ws ≤ ws.length
  | [] => Nat.le_refl _
  | w :: ws => by
    unfold dep
    have := dep_le (k := k) (cs := cs) ws
    split <;> simp only [List.length_cons] <;> omega
/-- how many stand above the depth -/
theorem dep_cnt {k : Nat} {cs : List Str} : ∀ ws : List Str, cnt (ws.drop (dep k cs ws)) cs ≤ k + 1
  | [] => by unfold dep; rw [List.drop_nil, cnt_nil]; omega
  | w :: ws => by
    unfold dep
    split
    · rw [List.drop_succ_cons]; exact dep_cnt ws
    · rename_i h
      have := cnt_cons (w := w) (ws := ws) (cs := cs)
      rw [List.drop_zero]
      omega
theorem dep_at {k : Nat} {cs : List Str} : ∀ (ws : List Str) (i : Nat), cnt (ws.drop (i + 1)) cs ≤ k → (i = 0 ∨ k < cnt (ws.drop i) cs) → dep k cs ws = i
  | [], i, _, h => by
    rcases h with rfl | h
    · rfl
    · rw [List.drop_nil, cnt_nil] at h; omega
  | w :: ws, 0, h, _ => by
    unfold dep
    rw [List.drop_succ_cons, List.drop_zero] at h
    rw [if_neg (by omega)]
  | w :: ws, i + 1, h, g => by
    rw [List.drop_succ_cons] at h
    have g : k < cnt (ws.drop i) cs := by
      rcases g with g | g
      · omega
      · rwa [List.drop_succ_cons] at g
    have m : cnt (ws.drop i) cs ≤ cnt ws cs := cnt_mono fun x hx => List.mem_of_mem_drop hx
    unfold dep
    rw [if_pos (by omega), dep_at ws i h (.inr g)]
theorem dep_step {k : Nat} {cs ws : List Str} {d : Nat} (h : d ≤ dep k cs ws) (g : k < cnt (ws.drop (d + 1)) cs) : d + 1 ≤ dep k cs ws := by
  induction ws generalizing d with
  | nil => rw [List.drop_nil, cnt_nil] at g; omega
  | cons w ws ih =>
    rw [List.drop_succ_cons] at g
    have m : cnt (ws.drop d) cs ≤ cnt ws cs := cnt_mono fun x hx => List.mem_of_mem_drop hx
    unfold dep at h ⊢
    rw [if_pos (by omega)] at h ⊢
    cases d with
    | zero => omega
    | succ d => have := ih (d := d) (by omega) g; omega
theorem dep_done {k : Nat} {cs ws : List Str} {d : Nat} (h : d ≤ dep k cs ws) (g : ¬k < cnt (ws.drop (d + 1)) cs) : d = dep k cs ws := by
  induction ws generalizing d with
  | nil => unfold dep at h ⊢; omega
  | cons w ws ih =>
    rw [List.drop_succ_cons] at g
    unfold dep at h ⊢
    split at h
    · rename_i q
      rw [if_pos q]
      cases d with
      | zero => rw [List.drop_zero] at g; omega
      | succ d => have := ih (d := d) (by omega) g; omega
    · rename_i q
      rw [if_neg q]
      omega
/-- how many cells are alike from the bottom -/
def cp : List Str → List Str → Nat
  | x :: xs, y :: ys => if x = y then cp xs ys + 1 else 0
  | _, _ => 0
theorem cp_le : ∀ xs ys : List Str, cp xs ys ≤ xs.length ∧ cp xs ys ≤ ys.length
  | [], _ => ⟨Nat.zero_le _, Nat.zero_le _⟩
  | _ :: _, [] => ⟨Nat.zero_le _, Nat.zero_le _⟩
  | x :: xs, y :: ys => by
    have := cp_le xs ys
    unfold cp
    split <;> simp only [List.length_cons] <;> omega
theorem cp_alike : ∀ (xs ys : List Str) (i : Nat), i < cp xs ys → xs[i]? = ys[i]?
  | [], _, i, h => by unfold cp at h; omega
  | _ :: _, [], i, h => by unfold cp at h; omega
  | x :: xs, y :: ys, i, h => by
    unfold cp at h
    split at h
    · rename_i e
      cases i with
      | zero => simp [e]
      | succ i => simp only [List.getElem?_cons_succ]; exact cp_alike xs ys i (by omega)
    · omega
theorem cp_unlike : ∀ (xs ys : List Str), cp xs ys < ys.length → xs[cp xs ys]? ≠ ys[cp xs ys]?
  | [], y :: ys, h => by unfold cp; simp
  | [], [], h => by simp [cp] at h
  | _ :: _, [], h => by simp [cp] at h
  | x :: xs, y :: ys, h => by
    unfold cp at h ⊢
    split
    · rename_i e
      rw [if_pos e] at h
      simp only [List.getElem?_cons_succ]
      exact cp_unlike xs ys (by simpa using h)
    · rename_i e
      simpa using e
theorem range_first {p : Nat → Bool} {m d : Nat} (h0 : ∀ i, i < m → p i = false) (h1 : p m = true) (h2 : m < d) : ∃ r, (List.range d).filter p = m :: r := by
  have e : d = m + (d - m - 1 + 1) := by omega
  rw [e, List.range_add, List.filter_append]
  have e1 : (List.range m).filter p = [] := by
    rw [List.filter_eq_nil_iff]
    intro i hi
    rw [h0 i (List.mem_range.mp hi)]
    decide
  rw [e1, List.nil_append, List.range_succ_eq_map, List.map_cons, List.filter_cons, if_pos (by simpa using h1)]
  exact ⟨_, rfl⟩
theorem range_none {p : Nat → Bool} {d : Nat} (h0 : ∀ i, i < d → p i = false) : (List.range d).filter p = [] := by
  rw [List.filter_eq_nil_iff]
  intro i hi
  rw [h0 i (List.mem_range.mp hi)]
  decide
end Wd
section
open PySem Di
local macro_rules | `(tactic| wtm_at "st") => `(tactic| simp -dsimp only [↓w_c, ↓w_v, ↓w_gc, ↓w_kdx, ↓w_bop, ↓w_rep, ↓w_neg, ↓w_cmp, ↓w_chn, ↓w_isn, ↓w_and, ↓w_or, ↓w_not, ↓w_ite, ↓w_tup, ↓w_lst, ↓w_dic0, ↓w_call, ↓w_blt, ↓w_rng, ↓w_isi, ↓w_ix, ↓w_sl, ↓w_rev, revD, ↓w_lc, ↓w_app, ↓w_ext, ↓w_pop, ↓w_cap_d, ↓w_cap_f, ↓w_cap_o, capS, ↓w_snil, ↓w_scons, ↓w_sstar, ↓w_vnil, ↓w_vcons, ↓w_mnil, ↓w_mf, ↓w_mt, ↓w_ono, ↓w_oe, ↓w_cno, ↓w_ce, ↓w_ie, ↓w_i1, ↓w_i2, ↓w_izip, ↓w_iez, ↓w_irvr, ↓w_srt, ↓w_srd, ↓w_lns, ↓w_popi, ↓w_jn, ↓w_sfi, ↓w_ins, ↓w_ebad, ↓w_sbad, ↓w_ien, txV, lstD, ↓w_dst, ownK, kOf, ezD, zipD, ↓w_asgn, ↓w_asgt, ↓w_set2, ↓w_aug, ↓w_six, ↓w_swp, ↓w_par, ↓w_exp, ↓w_ret, ↓w_retn, ↓w_ife, ↓w_for, ↓w_whl, ↓w_brk, ↓w_cnt, ↓w_pas, ↓w_nil, ↓w_cons, ↓nxt_nx, ↓nxt_rt, ↓nxt_bk, ↓nxt_ct, ↓w_asgV_d, ↓w_asgV_f, ↓w_asgV_o, ↓w_tst, ↓wp_ok, wp_ok, wp_ex, ↓wp_some, wp_some, ↓wp_chkt, wp_chkt, wp_selt, wp_self, ↓wp_bind, lift_if, lift_map, vV_sh, vV_ow, vV_rf, isB, isnD, fL, seqD, oI, shI, tup2, ↓slot_z, ↓slot_s, res, Sl.data, Sl.own, ↓copD_eq, ↓copD_ne, cmpS, cmpI, cmp_l00, cmp_t00, copD, bopD, ixD, slD, opI, at0, at1, at2, at3, at4, set3_0, set3_1, set3_2, truD, truOk, mkV, asgT, asgL, ↓setN_s, setN_zu, setN_zs, setN_zo, ↓setO_z, ↓setO_s, ownL, ↓chg_s, chg_zo, chg_zr, retV, outsE, mapM0, ↓mapM1, ↓mapM2, ↓mapM3, bltD, isiD, Es.len, Ar.slots, nodup, datas, Ar.data, puts, itD, ↓wipe1s, ↓wipe2s, wipe0, shn_sn, shn_sh, shn_un, keepE_nr, keepE_sn, setN_nr, setN_sn, Tg.slots, keepE_nil, keepE_sh, keepE_un, keepE_ow, keepE_rf, augD, initE, rgI, List.set_cons_zero, List.set_cons_succ, List.replicate_succ, List.replicate_zero, ln0, ln1, ln2, ln3, ln4, ln5, ln6, ln7, ln8, ln9, ln10, ln11, ln12, ln13, ln14, ln15, ln16, Option.map, Bool.false_or, Bool.or_false, Bool.true_or, Bool.or_true, Bool.false_and, Bool.true_and, Bool.and_false, Bool.and_true, true_or, or_true, decide_true, decide_false, Bool.false_eq_true, and_self, and_true, true_and, Bool.not_true, Bool.not_false, Bool.and_self, Bool.not_not, List.getElem?_cons_zero, List.getElem?_cons_succ, List.take_succ_cons, List.take_zero, List.drop_succ_cons, List.drop_zero, List.nil_append, List.append_nil, List.cons_append, List.contains_nil, filter_ff, eqv_tnil', isE_nil, isE_cons, eqvI, eqvS, eqv_nil, List.map_cons, List.map_nil, es_pp, es_pd, es_ps, es_dp, es_dd, es_ds, es_sp, es_sd, es_ss, ite_tt, ite_ff, ↓reduceIte, Prod.fst, Prod.snd, K11.md_law_pen, K88.md_law_draw, K88.md_law_values, K88.md_law_stack, K88.md_law_target, K88.md_law_constants, K88.md_law_reach, K88.md_depth_beside, K88.md_common_prefix, K88.md_obstacle, K88.md_decide_beside, K88.md_decide_with_kw_constants_reach, K88.md_reaches_with_kw_constants_reach, K88.md_law_bare, K88.md_law_decided, K88.md_law_right, K88.md_law, cmp_scr, eqv_scr_nil])
local macro_rules | `(tactic| wtm_at "ck") => `(tactic| with_reducible refine Wp.chkd (by first | assumption | omega | (have hsl := slE; (try simp only [List.length_cons, List.length_nil, List.length_append, List.length_map, List.length_replicate, List.length_dropLast, List.length_set, List.length_take, List.length_drop, List.length_reverse]); omega)) ?_)
local macro_rules | `(tactic| wtm_at "pk") => `(tactic| with_reducible refine Wp.draw (K11.pick_run _ _ _ _ (by omega) (by omega) (by omega) (by omega) (by omega)) ?_)
local macro_rules | `(tactic| wtm_at "rg") => `(tactic| with_reducible refine Wp.lift (rg62_ok (by omega)) ?_)
local macro_rules | `(tactic| wtm_at "al") => `(tactic| ((repeat (refine all_cons ⟨_, rfl, by omega, by omega⟩ ?_)); exact all_nil))
local macro_rules | `(tactic| wtm_at "go") => `(tactic| repeat (first | wtm_at "ck" | wtm_at "st"))
local macro_rules | `(tactic| wtm_at "sl") => `(tactic| (with_reducible apply Wp.sel) <;> intro hsel)
local macro_rules | `(tactic| wtm_at "br") => `(tactic| repeat' (first | wtm_at "ck" | (with_reducible refine Wp.selT (by assumption) ?_) | (with_reducible refine Wp.selF (by assumption) ?_) | wtm_at "sl" | wtm_at "st"))
local macro_rules | `(tactic| wtm_at "bd") => `(tactic| repeat' (first | wtm_at "ck" | (with_reducible refine Wp.selp (by omega) ?_) | (with_reducible refine Wp.seln (by omega) ?_) | ((with_reducible apply Wp.seld) <;> intro hsel) | wtm_at "st"))
namespace K88
open PySem Di
theorem gr (c : Int) (h : decide ((10 : Int) ^ Int.toNat 18 ≤ if c < 0 then -c else c) = true) : 0 ≤ 2 * ((if c < 0 then -c else c) - (10 : Int) ^ Int.toNat 18) + (if decide (c < 0) = true then 1 else 0) := by
  have h := of_decide_eq_true h
  generalize (10 : Int) ^ Int.toNat 18 = t at h ⊢
  generalize (if c < 0 then -c else c) = e at h ⊢
  split <;> omega
theorem draw_run (L : List Int) (a g u : Int) (h0 : 0 ≤ a) (ha : a ≤ 1000000) (hg : 0 ≤ g) (hu : 0 < u) (hu2 : u < 1073741824) : Drawn L a g u (f_law_draw.run [pen L a g, .int u]) := by
  refine drawn_of (sp_run (n := 7) (md := [true, false]) (b := ir_law_draw) (tb := _) (ds := [pen L a g, .int u]) rfl ?_)
  delta ir_law_draw
  unfold pen
  wtm_at "go"
  refine Wp.sel (fun hs => ?_) fun hs => ?_
  · have hs := of_decide_eq_true hs
    wtm_at "go"
    exact ⟨_, a, _, rfl, rfl, Int.emod_nonneg _ (by omega), Int.emod_lt_of_pos _ hu, by omega, by omega, Int.ediv_nonneg (by omega) (by omega)⟩
  · have hs := of_decide_eq_false hs
    wtm_at "go"
    have eqs : ∀ c : Int, Int.natAbs (c % 2147483579 + 52027 * a + 43) < 2 ^ 64 := fun c => by omega
    have q1 : a * a ≤ 1000000 * 1000000 := Int.mul_le_mul ha ha h0 (by omega)
    have q0 : 0 ≤ a * a := Int.mul_nonneg h0 h0
    have q2 : 73009 * a * a = 73009 * (a * a) := Int.mul_assoc _ _ _
    have e3 : ∀ x : Int, 0 ≤ x % 2147483647 ∧ x % 2147483647 < 2147483647 := fun x => ⟨Int.emod_nonneg x (by omega), Int.emod_lt_of_pos x (by omega)⟩
    have p2 : ∀ x : Int, (x % 2147483647 * (2 * a + 11) + 73009 * a * a + 17).natAbs < 2 ^ 64 := fun x => by
      obtain ⟨x1, x2⟩ := e3 x
      have y1 : x % 2147483647 * (2 * a + 11) ≤ 2147483647 * 2000011 := Int.mul_le_mul (by omega) (by omega) (by omega) (by omega)
      have y2 : 0 ≤ x % 2147483647 * (2 * a + 11) := Int.mul_nonneg x1 (by omega)
      rw [q2]
      omega
    have p4 : a.natAbs < 2 ^ 64 := by omega
    have p5 : (2 * a + 11).natAbs < 2 ^ 64 := by omega
    have bk : ∀ c m : Int, 0 < m → 0 ≤ c % m ∧ c % m < m := fun c m h => ⟨Int.emod_nonneg _ (by omega), Int.emod_lt_of_pos _ h⟩
    unfold scr
    have tail : ∀ (c : Int), 0 ≤ c.natAbs := fun c => by omega
    refine Wp.sel (fun hn => ?_) fun hn => ?_
    · have hl : 0 < L.length := by cases L <;> first | (exact absurd hn (by decide)) | simp
      have hl2 : (0 : Int) < ((L.map PyData.int).length : Nat) := by simpa using hl
      wtm_at "go"
      refine Wp.atP (fun x => ∃ v, x = .int v) (fun x hx => by obtain ⟨v, _, rfl⟩ := List.mem_map.mp hx; exact ⟨v, rfl⟩) (bk _ _ hl2).1 (bk _ _ hl2).2 fun x hx => ?_
      obtain ⟨c, rfl⟩ := hx
      wtm_at "br"
      all_goals (first
        | exact ⟨_, _, _, rfl, rfl, (bk _ _ hu).1, (bk _ _ hu).2, by omega, by omega, Int.ediv_nonneg (gr _ (by assumption)) (by omega)⟩
        | (refine Wp.chkd ⟨by omega, by omega, p2 _⟩ ?_; wtm_at "go"; exact ⟨_, _, _, rfl, rfl, (bk _ _ hu).1, (bk _ _ hu).2, by omega, by omega, hg⟩))
    · wtm_at "br"
      all_goals (first
        | exact ⟨_, _, _, rfl, rfl, (bk _ _ hu).1, (bk _ _ hu).2, by omega, by omega, Int.ediv_nonneg (gr _ (by assumption)) (by omega)⟩
        | (refine Wp.chkd ⟨by omega, by omega, p2 _⟩ ?_; wtm_at "go"; exact ⟨_, _, _, rfl, rfl, (bk _ _ hu).1, (bk _ _ hu).2, by omega, by omega, hg⟩))
end K88
end
section
open PySem Di
local macro_rules | `(tactic| wtm_at "st") => `(tactic| simp -dsimp only [↓w_c, ↓w_v, ↓w_gc, ↓w_kdx, ↓w_bop, ↓w_rep, ↓w_neg, ↓w_cmp, ↓w_chn, ↓w_isn, ↓w_and, ↓w_or, ↓w_not, ↓w_ite, ↓w_tup, ↓w_lst, ↓w_dic0, ↓w_call, ↓w_blt, ↓w_rng, ↓w_isi, ↓w_ix, ↓w_sl, ↓w_rev, revD, ↓w_lc, ↓w_app, ↓w_ext, ↓w_pop, ↓w_cap_d, ↓w_cap_f, ↓w_cap_o, capS, ↓w_snil, ↓w_scons, ↓w_sstar, ↓w_vnil, ↓w_vcons, ↓w_mnil, ↓w_mf, ↓w_mt, ↓w_ono, ↓w_oe, ↓w_cno, ↓w_ce, ↓w_ie, ↓w_i1, ↓w_i2, ↓w_izip, ↓w_iez, ↓w_irvr, ↓w_srt, ↓w_srd, ↓w_lns, ↓w_popi, ↓w_jn, ↓w_sfi, ↓w_ins, ↓w_ebad, ↓w_sbad, ↓w_ien, txV, lstD, ↓w_dst, ownK, kOf, ezD, zipD, ↓w_asgn, ↓w_asgt, ↓w_set2, ↓w_aug, ↓w_six, ↓w_swp, ↓w_par, ↓w_exp, ↓w_ret, ↓w_retn, ↓w_ife, ↓w_for, ↓w_whl, ↓w_brk, ↓w_cnt, ↓w_pas, ↓w_nil, ↓w_cons, ↓nxt_nx, ↓nxt_rt, ↓nxt_bk, ↓nxt_ct, ↓w_asgV_d, ↓w_asgV_f, ↓w_asgV_o, ↓w_tst, ↓wp_ok, wp_ok, wp_ex, ↓wp_some, wp_some, ↓wp_chkt, wp_chkt, wp_selt, wp_self, ↓wp_bind, lift_if, lift_map, vV_sh, vV_ow, vV_rf, isB, isnD, fL, seqD, oI, shI, tup2, ↓slot_z, ↓slot_s, res, Sl.data, Sl.own, ↓copD_eq, ↓copD_ne, cmpS, cmpI, cmp_l00, cmp_t00, copD, bopD, ixD, slD, opI, at0, at1, at2, at3, at4, set3_0, set3_1, set3_2, truD, truOk, mkV, asgT, asgL, ↓setN_s, setN_zu, setN_zs, setN_zo, ↓setO_z, ↓setO_s, ownL, ↓chg_s, chg_zo, chg_zr, retV, outsE, mapM0, ↓mapM1, ↓mapM2, ↓mapM3, bltD, isiD, Es.len, Ar.slots, nodup, datas, Ar.data, puts, itD, ↓wipe1s, ↓wipe2s, wipe0, shn_sn, shn_sh, shn_un, keepE_nr, keepE_sn, setN_nr, setN_sn, Tg.slots, keepE_nil, keepE_sh, keepE_un, keepE_ow, keepE_rf, augD, initE, rgI, List.set_cons_zero, List.set_cons_succ, List.replicate_succ, List.replicate_zero, ln0, ln1, ln2, ln3, ln4, ln5, ln6, ln7, ln8, ln9, ln10, ln11, ln12, ln13, ln14, ln15, ln16, Option.map, Bool.false_or, Bool.or_false, Bool.true_or, Bool.or_true, Bool.false_and, Bool.true_and, Bool.and_false, Bool.and_true, true_or, or_true, decide_true, decide_false, Bool.false_eq_true, and_self, and_true, true_and, Bool.not_true, Bool.not_false, Bool.and_self, Bool.not_not, List.getElem?_cons_zero, List.getElem?_cons_succ, List.take_succ_cons, List.take_zero, List.drop_succ_cons, List.drop_zero, List.nil_append, List.append_nil, List.cons_append, List.contains_nil, filter_ff, eqv_tnil', isE_nil, isE_cons, eqvI, eqvS, eqv_nil, List.map_cons, List.map_nil, es_pp, es_pd, es_ps, es_dp, es_dd, es_ds, es_sp, es_sd, es_ss, ite_tt, ite_ff, ↓reduceIte, Prod.fst, Prod.snd, K11.md_law_pen, K88.md_law_draw, K88.md_law_values, K88.md_law_stack, K88.md_law_target, K88.md_law_constants, K88.md_law_reach, K88.md_depth_beside, K88.md_common_prefix, K88.md_obstacle, K88.md_decide_beside, K88.md_decide_with_kw_constants_reach, K88.md_reaches_with_kw_constants_reach, K88.md_law_bare, K88.md_law_decided, K88.md_law_right, K88.md_law, eqv_scr_nil, cmp_nil, wipe3s])
local macro_rules | `(tactic| wtm_at "ck") => `(tactic| with_reducible refine Wp.chkd (by first | assumption | omega | (have hsl := slE; (try simp only [List.length_cons, List.length_nil, List.length_append, List.length_map, List.length_replicate, List.length_dropLast, List.length_set, List.length_take, List.length_drop, List.length_reverse]); omega)) ?_)
local macro_rules | `(tactic| wtm_at "pk") => `(tactic| with_reducible refine Wp.draw (K11.pick_run _ _ _ _ (by omega) (by omega) (by omega) (by omega) (by omega)) ?_)
local macro_rules | `(tactic| wtm_at "rg") => `(tactic| with_reducible refine Wp.lift (rg62_ok (by omega)) ?_)
local macro_rules | `(tactic| wtm_at "al") => `(tactic| ((repeat (refine all_cons ⟨_, rfl, by omega, by omega⟩ ?_)); exact all_nil))
local macro_rules | `(tactic| wtm_at "go") => `(tactic| repeat (first | wtm_at "ck" | wtm_at "st"))
local macro_rules | `(tactic| wtm_at "sl") => `(tactic| (with_reducible apply Wp.sel) <;> intro hsel)
local macro_rules | `(tactic| wtm_at "br") => `(tactic| repeat' (first | wtm_at "ck" | (with_reducible refine Wp.selT (by assumption) ?_) | (with_reducible refine Wp.selF (by assumption) ?_) | wtm_at "sl" | wtm_at "st"))
local macro_rules | `(tactic| wtm_at "bd") => `(tactic| repeat' (first | wtm_at "ck" | (with_reducible refine Wp.selp (by omega) ?_) | (with_reducible refine Wp.seln (by omega) ?_) | ((with_reducible apply Wp.seld) <;> intro hsel) | wtm_at "st"))
namespace K88
open PySem Di Wd
def tS (ws : List Str) : PyData := .tuple (ws.map .str)
def mu (us : List Str) : List (PyData × PyData) := us.map fun u => (.str u, .bool true)
theorem mu_len {us : List Str} : (mu us).length = us.length := by unfold mu; simp
theorem fl_strs {cs : List Str} : (cs.map PyData.str).all flD = true := by
  rw [List.all_eq_true]
  intro x hx
  obtain ⟨z, _, rfl⟩ := List.mem_map.mp hx
  rfl
theorem mem_strs {w : Str} {cs : List Str} : memOk (.str w) (cs.map .str) = true := by
  unfold memOk
  rw [fl_strs]
  rfl
theorem eqv_ss {s t : Str} : PyData.eqv (.str s) (.str t) = decide (s = t) := by
  show (s == t) = _
  rw [Bool.eq_iff_iff]
  simp
theorem in_strs {w : Str} {cs : List Str} : inD (.str w) (cs.map .str) = decide (w ∈ cs) := by
  unfold inD
  rw [Bool.eq_iff_iff, List.any_eq_true, decide_eq_true_eq]
  constructor
  · rintro ⟨y, hy, e⟩
    obtain ⟨z, hz, rfl⟩ := List.mem_map.mp hy
    rw [eqv_ss] at e
    rw [← of_decide_eq_true e]
    exact hz
  · intro h
    exact ⟨.str w, List.mem_map.mpr ⟨w, h, rfl⟩, by rw [eqv_ss]; exact decide_eq_true rfl⟩
theorem putD_mu {us : List Str} {w : Str} : putD (mu us) (.inr w) (.bool true) = mu (SS.put us w) := by
  have e1 : ((mu us).any fun p => decide (kOf p.1 = some (.inr w))) = decide (w ∈ us) := by
    unfold mu
    rw [List.any_map, Bool.eq_iff_iff, List.any_eq_true, decide_eq_true_eq]
    constructor
    · rintro ⟨u, hu, e⟩
      have e := of_decide_eq_true e
      have e : u = w := by simpa [kOf] using e
      rw [← e]; exact hu
    · intro h
      exact ⟨w, h, decide_eq_true rfl⟩
  have e2 : ((mu us).map fun p => if kOf p.1 = some (.inr w) then (p.1, PyData.bool true) else p) = mu us := by
    unfold mu
    rw [List.map_map]
    apply List.map_congr_left
    intro u _
    show (if _ then (PyData.str u, PyData.bool true) else (PyData.str u, PyData.bool true)) = _
    split <;> rfl
  unfold putD
  rw [e1, e2]
  unfold SS.put
  by_cases h : w ∈ us
  · rw [if_pos (decide_eq_true h), if_pos h]
  · rw [if_neg (by simpa using h), if_neg h]
    unfold mu
    rw [List.map_append]
    rfl
def rv (i : Nat) : List PyData := (rgD 0 (i : Int)).reverse
theorem rv_zero : rv 0 = [] := rfl
theorem rv_succ {j : Nat} : rv (j + 1) = .int (j : Int) :: rv j := by
  have e : rgD 0 ((j + 1 : Nat) : Int) = rgD 0 (j : Int) ++ [.int (j : Int)] := by
    unfold rgD
    rw [show (((j + 1 : Nat) : Int) - 0).toNat = j + 1 by omega, show ((j : Int) - 0).toNat = j by omega, List.range_succ, List.map_append]
    simp
  unfold rv
  rw [e, List.reverse_append]
  rfl
theorem at_strs {ws : List Str} {j : Nat} {w : Str} (h : ws[j]? = some w) : L2.atI (ws.map PyData.str) (j : Int) = some (.str w) := by
  rw [at_nat, List.getElem?_map, h]
  rfl
theorem depth_run (ws cs : List Str) (K : Int) (k : Nat) (ek : K = k) (hl : ws.length ≤ 1000) : Sp (f_depth_beside.run [tS ws, tS cs, .int K]) (fun fr d o => fr = false ∧ d = .int (dep k cs ws : Nat) ∧ o = []) (fun _ _ => False) := by
  refine sp_run (n := 5) (md := [false, false, false]) (b := ir_depth_beside) (tb := _) (ds := [tS ws, tS cs, .int K]) rfl ?_
  delta ir_depth_beside
  have sl := slE
  unfold tS
  wtm_at "go"
  have wl : (ws.map PyData.str).length = ws.length := by simp
  rw [wl]
  have e0 : (rgD 0 (ws.length : Int)).reverse = rv ws.length := rfl
  rw [e0]
  have m0 : ([] : List (PyData × PyData)) = mu [] := rfl
  rw [m0]
  refine Wp.for (fun rest r => ∃ (i : Nat) (us : List Str) (s4 : Sn), rest = rv i ∧ r = [.sh (.tuple (ws.map .str)), .sh (.tuple (cs.map .str)), .sh (.int K), .ow (.dict (mu us)), sn s4] ∧ i ≤ ws.length ∧ us.Nodup ∧ (∀ x, x ∈ us ↔ (x ∈ ws.drop i ∧ x ∉ cs)) ∧ us.length ≤ k) ?step ?done
    ⟨ws.length, [], .un, rfl, rfl, Nat.le_refl _, List.nodup_nil, by simp, by simp⟩
  case step =>
    rintro x xs r ⟨i, us, s4, e, rfl, hi, nu, hu, hk⟩
    cases i with
    | zero => cases e
    | succ j =>
      rw [rv_succ] at e
      cases e
      obtain ⟨w, hw⟩ : ∃ w, ws[j]? = some w := ⟨ws[j], List.getElem?_eq_getElem (by omega)⟩
      have hdrop : ws.drop j = w :: ws.drop (j + 1) := by
        have := List.drop_eq_getElem_cons (l := ws) (i := j) (by omega)
        rw [this]
        rw [List.getElem?_eq_getElem (by omega)] at hw
        cases hw
        rfl
      have ha := at_strs hw
      have cu : us.length = cnt (ws.drop (j + 1)) cs := cnt_of nu hu
      have hul : us.length ≤ 1000 := by
        have := List.Nodup.length_le_of_subset nu (fun x hx => List.mem_of_mem_drop ((hu x).mp hx).1 : us ⊆ ws)
        omega
      wtm_at "go"
      refine Wp.lift ha ?_
      wtm_at "go"
      refine Wp.chkd mem_strs ?_
      rw [in_strs]
      wtm_at "go"
      refine Wp.sel (fun hc => ?_) fun hc => ?_
      · have hc : w ∉ cs := by simpa using hc
        wtm_at "go"
        refine Wp.lift ha ?_
        wtm_at "go"
        refine Wp.chkd (by rw [mu_len]; omega) ?_
        wtm_at "go"
        rw [putD_mu, mu_len]
        have pn := SS.put_nodup nu w
        have pm : ∀ x, x ∈ SS.put us w ↔ (x ∈ ws.drop j ∧ x ∉ cs) := fun x => by
          rw [SS.mem_put, hu, hdrop, List.mem_cons]
          constructor
          · rintro (⟨a, b⟩ | rfl)
            · exact ⟨.inr a, b⟩
            · exact ⟨.inl rfl, hc⟩
          · rintro ⟨rfl | a, b⟩
            · exact .inr rfl
            · exact .inl ⟨a, b⟩
        have pc : (SS.put us w).length = cnt (ws.drop j) cs := cnt_of pn pm
        refine Wp.sel (fun hg => ?_) fun hg => ?_
        · have hg := of_decide_eq_true hg
          wtm_at "go"
          rw [dep_at ws j (by omega) (.inr (by omega))]
        · have hg := of_decide_eq_false hg
          wtm_at "go"
          exact ⟨j, SS.put us w, .sh _, rfl, rfl, by omega, pn, pm, by omega⟩
      · have hc : w ∈ cs := by simpa using hc
        have pm : ∀ x, x ∈ us ↔ (x ∈ ws.drop j ∧ x ∉ cs) := fun x => by
          rw [hu, hdrop, List.mem_cons]
          constructor
          · rintro ⟨a, b⟩
            exact ⟨.inr a, b⟩
          · rintro ⟨rfl | a, b⟩
            · exact absurd hc b
            · exact ⟨a, b⟩
        wtm_at "go"
        rw [mu_len]
        have hg : decide (K < (us.length : Int)) = false := decide_eq_false (by omega)
        rw [hg]
        wtm_at "go"
        exact ⟨j, us, .sh _, rfl, rfl, by omega, nu, pm, hk⟩
  case done =>
    rintro r ⟨i, us, s4, e, rfl, hi, nu, hu, hk⟩
    cases i with
    | succ j => rw [rv_succ] at e; cases e
    | zero =>
      have cu : us.length = cnt ws cs := cnt_of nu (by simpa using hu)
      have m : cnt (ws.drop 1) cs ≤ cnt ws cs := cnt_mono fun x hx => List.mem_of_mem_drop hx
      have d0 : dep k cs ws = 0 := dep_at ws 0 (by simp only [Nat.zero_add]; omega) (.inl rfl)
      wtm_at "go"
      rw [d0]
      rfl
end K88
end
section
open PySem Di
local macro_rules | `(tactic| wtm_at "st") => `(tactic| simp -dsimp only [↓w_c, ↓w_v, ↓w_gc, ↓w_kdx, ↓w_bop, ↓w_rep, ↓w_neg, ↓w_cmp, ↓w_chn, ↓w_isn, ↓w_and, ↓w_or, ↓w_not, ↓w_ite, ↓w_tup, ↓w_lst, ↓w_dic0, ↓w_call, ↓w_blt, ↓w_rng, ↓w_isi, ↓w_ix, ↓w_sl, ↓w_rev, revD, ↓w_lc, ↓w_app, ↓w_ext, ↓w_pop, ↓w_cap_d, ↓w_cap_f, ↓w_cap_o, capS, ↓w_snil, ↓w_scons, ↓w_sstar, ↓w_vnil, ↓w_vcons, ↓w_mnil, ↓w_mf, ↓w_mt, ↓w_ono, ↓w_oe, ↓w_cno, ↓w_ce, ↓w_ie, ↓w_i1, ↓w_i2, ↓w_izip, ↓w_iez, ↓w_irvr, ↓w_srt, ↓w_srd, ↓w_lns, ↓w_popi, ↓w_jn, ↓w_sfi, ↓w_ins, ↓w_ebad, ↓w_sbad, ↓w_ien, txV, lstD, ↓w_dst, ownK, kOf, ezD, zipD, ↓w_asgn, ↓w_asgt, ↓w_set2, ↓w_aug, ↓w_six, ↓w_swp, ↓w_par, ↓w_exp, ↓w_ret, ↓w_retn, ↓w_ife, ↓w_for, ↓w_whl, ↓w_brk, ↓w_cnt, ↓w_pas, ↓w_nil, ↓w_cons, ↓nxt_nx, ↓nxt_rt, ↓nxt_bk, ↓nxt_ct, ↓w_asgV_d, ↓w_asgV_f, ↓w_asgV_o, ↓w_tst, ↓wp_ok, wp_ok, wp_ex, ↓wp_some, wp_some, ↓wp_chkt, wp_chkt, wp_selt, wp_self, ↓wp_bind, lift_if, lift_map, vV_sh, vV_ow, vV_rf, isB, isnD, fL, seqD, oI, shI, tup2, ↓slot_z, ↓slot_s, res, Sl.data, Sl.own, ↓copD_eq, ↓copD_ne, cmpS, cmpI, cmp_l00, cmp_t00, copD, bopD, ixD, slD, opI, at0, at1, at2, at3, at4, set3_0, set3_1, set3_2, truD, truOk, mkV, asgT, asgL, ↓setN_s, setN_zu, setN_zs, setN_zo, ↓setO_z, ↓setO_s, ownL, ↓chg_s, chg_zo, chg_zr, retV, outsE, mapM0, ↓mapM1, ↓mapM2, ↓mapM3, bltD, isiD, Es.len, Ar.slots, nodup, datas, Ar.data, puts, itD, ↓wipe1s, ↓wipe2s, wipe0, shn_sn, shn_sh, shn_un, keepE_nr, keepE_sn, setN_nr, setN_sn, Tg.slots, keepE_nil, keepE_sh, keepE_un, keepE_ow, keepE_rf, augD, initE, rgI, List.set_cons_zero, List.set_cons_succ, List.replicate_succ, List.replicate_zero, ln0, ln1, ln2, ln3, ln4, ln5, ln6, ln7, ln8, ln9, ln10, ln11, ln12, ln13, ln14, ln15, ln16, Option.map, Bool.false_or, Bool.or_false, Bool.true_or, Bool.or_true, Bool.false_and, Bool.true_and, Bool.and_false, Bool.and_true, true_or, or_true, decide_true, decide_false, Bool.false_eq_true, and_self, and_true, true_and, Bool.not_true, Bool.not_false, Bool.and_self, Bool.not_not, List.getElem?_cons_zero, List.getElem?_cons_succ, List.take_succ_cons, List.take_zero, List.drop_succ_cons, List.drop_zero, List.nil_append, List.append_nil, List.cons_append, List.contains_nil, filter_ff, eqv_tnil', isE_nil, isE_cons, eqvI, eqvS, eqv_nil, List.map_cons, List.map_nil, es_pp, es_pd, es_ps, es_dp, es_dd, es_ds, es_sp, es_sd, es_ss, ite_tt, ite_ff, ↓reduceIte, Prod.fst, Prod.snd, K11.md_law_pen, K88.md_law_draw, K88.md_law_values, K88.md_law_stack, K88.md_law_target, K88.md_law_constants, K88.md_law_reach, K88.md_depth_beside, K88.md_common_prefix, K88.md_obstacle, K88.md_decide_beside, K88.md_decide_with_kw_constants_reach, K88.md_reaches_with_kw_constants_reach, K88.md_law_bare, K88.md_law_decided, K88.md_law_right, K88.md_law, eqv_scr_nil, cmp_nil, wipe3s])
local macro_rules | `(tactic| wtm_at "ck") => `(tactic| with_reducible refine Wp.chkd (by first | assumption | omega | (have hsl := slE; (try simp only [List.length_cons, List.length_nil, List.length_append, List.length_map, List.length_replicate, List.length_dropLast, List.length_set, List.length_take, List.length_drop, List.length_reverse]); omega)) ?_)
local macro_rules | `(tactic| wtm_at "pk") => `(tactic| with_reducible refine Wp.draw (K11.pick_run _ _ _ _ (by omega) (by omega) (by omega) (by omega) (by omega)) ?_)
local macro_rules | `(tactic| wtm_at "rg") => `(tactic| with_reducible refine Wp.lift (rg62_ok (by omega)) ?_)
local macro_rules | `(tactic| wtm_at "al") => `(tactic| ((repeat (refine all_cons ⟨_, rfl, by omega, by omega⟩ ?_)); exact all_nil))
local macro_rules | `(tactic| wtm_at "go") => `(tactic| repeat (first | wtm_at "ck" | wtm_at "st"))
local macro_rules | `(tactic| wtm_at "sl") => `(tactic| (with_reducible apply Wp.sel) <;> intro hsel)
local macro_rules | `(tactic| wtm_at "br") => `(tactic| repeat' (first | wtm_at "ck" | (with_reducible refine Wp.selT (by assumption) ?_) | (with_reducible refine Wp.selF (by assumption) ?_) | wtm_at "sl" | wtm_at "st"))
local macro_rules | `(tactic| wtm_at "bd") => `(tactic| repeat' (first | wtm_at "ck" | (with_reducible refine Wp.selp (by omega) ?_) | (with_reducible refine Wp.seln (by omega) ?_) | ((with_reducible apply Wp.seld) <;> intro hsel) | wtm_at "st"))
namespace K88
open PySem Di Wd
def zs (i : Nat) (xs ys : List Str) : List PyData := enD i (List.zipWith (fun x y => PyData.tuple [x, y]) ((xs.drop i).map .str) ((ys.drop i).map .str))
theorem drop_cons {l : List Str} {i : Nat} {a : Str} {as : List Str} (h : l.drop i = a :: as) : l.drop (i + 1) = as := by
  rw [show i + 1 = i + 1 from rfl, ← List.drop_drop, h]
  rfl
theorem zs_cons {i : Nat} {xs ys : List Str} {x : PyData} {rest : List PyData} (h : zs i xs ys = x :: rest) : ∃ a b as bs, xs.drop i = a :: as ∧ ys.drop i = b :: bs ∧ x = .tuple [.int (i : Int), .tuple [.str a, .str b]] ∧ rest = zs (i + 1) xs ys := by
  unfold zs at h
  cases hx : xs.drop i with
  | nil => rw [hx] at h; cases h
  | cons a as =>
    cases hy : ys.drop i with
    | nil => rw [hx, hy] at h; cases h
    | cons b bs =>
      rw [hx, hy] at h
      simp only [List.map_cons, List.zipWith_cons_cons, enD] at h
      cases h
      refine ⟨a, b, as, bs, rfl, rfl, rfl, ?_⟩
      unfold zs
      rw [drop_cons hx, drop_cons hy]
theorem zs_nil {i : Nat} {xs ys : List Str} (h : zs i xs ys = []) : xs.length ≤ i ∨ ys.length ≤ i := by
  unfold zs at h
  cases hx : xs.drop i with
  | nil => exact .inl (List.drop_eq_nil_iff.mp hx)
  | cons a as =>
    cases hy : ys.drop i with
    | nil => exact .inr (List.drop_eq_nil_iff.mp hy)
    | cons b bs => rw [hx, hy] at h; cases h
theorem cp_cons {a b : Str} {as bs : List Str} : cp (a :: as) (b :: bs) = if a = b then cp as bs + 1 else 0 := rfl
theorem prefix_run (xs ys : List Str) : Sp (f_common_prefix.run [tS xs, tS ys]) (fun fr d o => fr = false ∧ d = .int (cp xs ys : Nat) ∧ o = []) (fun _ _ => False) := by
  refine sp_run (n := 5) (md := [false, false]) (b := ir_common_prefix) (tb := _) (ds := [tS xs, tS ys]) rfl ?_
  delta ir_common_prefix
  unfold tS
  wtm_at "go"
  have e0 : enD 0 (List.zipWith (fun x y => PyData.tuple [x, y]) (xs.map .str) (ys.map .str)) = zs 0 xs ys := rfl
  rw [e0]
  refine Wp.for (fun rest r => ∃ (i : Nat) (s2 s3 s4 : Sn), rest = zs i xs ys ∧ r = [.sh (.tuple (xs.map .str)), .sh (.tuple (ys.map .str)), sn s2, sn s3, sn s4] ∧ i ≤ xs.length ∧ i ≤ ys.length ∧ cp xs ys = i + cp (xs.drop i) (ys.drop i)) ?step ?done
    ⟨0, .un, .un, .un, rfl, rfl, Nat.zero_le _, Nat.zero_le _, by simp⟩
  case step =>
    rintro x rest r ⟨i, s2, s3, s4, e, rfl, hx, hy, hc⟩
    obtain ⟨a, b, as, bs, ea, eb, rfl, rfl⟩ := zs_cons e.symm
    have la : i < xs.length := by
      have := congrArg List.length ea
      rw [List.length_drop, List.length_cons] at this
      omega
    have lb : i < ys.length := by
      have := congrArg List.length eb
      rw [List.length_drop, List.length_cons] at this
      omega
    rw [ea, eb, cp_cons] at hc
    wtm_at "go"
    rw [eqv_ss]
    refine Wp.sel (fun hs => ?_) fun hs => ?_
    · have hs : ¬a = b := by simpa using hs
      rw [if_neg hs] at hc
      wtm_at "go"
      rw [hc]
      rfl
    · have hs : a = b := by simpa using hs
      rw [if_pos hs] at hc
      wtm_at "go"
      exact ⟨i + 1, .sh _, .sh _, .sh _, rfl, rfl, la, lb, by rw [drop_cons ea, drop_cons eb]; omega⟩
  case done =>
    rintro r ⟨i, s2, s3, s4, e, rfl, hx, hy, hc⟩
    have h0 := cp_le (xs.drop i) (ys.drop i)
    rw [List.length_drop, List.length_drop] at h0
    have h1 := zs_nil e.symm
    have wl : (xs.map PyData.str).length = xs.length := by simp
    have wl2 : (ys.map PyData.str).length = ys.length := by simp
    wtm_at "go"
    rw [wl, wl2]
    congr 1
    split <;> omega
/-- the cell above the ground is not needed -/
def offB (ss gs ns : List Str) : Bool := match ss[gs.length]? with
  | some w => decide (w ∉ ns)
  | none => true
/-- what is told of an obstacle -/
def obs (ss gs ns : List Str) (k : Nat) : PyData :=
  if cp ss gs < gs.length then .tuple [.str "ground", .int (cp ss gs : Nat)]
  else match ns.filter (fun z => decide (z ∉ ss.drop gs.length)) with
    | a :: _ => .tuple [.str "missing", .str a]
    | [] => if k < ns.length ∧ offB ss gs ns = true then .tuple [.str "edge", tS ns] else .tuple [.none, .none]
theorem strs_tup {ws : List Str} : strsL (ws.map .str) = some ws := by
  induction ws with
  | nil => rfl
  | cons w ws ih => rw [List.map_cons, strsL, ih]; rfl
theorem setD_tS {ws : List Str} (h : ws.length ≤ 1000) : setD (.tuple (ws.map .str)) = some (SS.once ws) := by
  show ((strsL (ws.map .str)).bind fun zs => if zs.length + 1 < 4096 then some (SS.once zs) else none) = _
  rw [strs_tup]
  show (if ws.length + 1 < 4096 then some (SS.once ws) else none) = _
  rw [if_pos (by omega)]
theorem cut_from {ws : List Str} {d : Nat} : cutD (ws.map PyData.str) (some (d : Int)) none = (ws.drop d).map .str := by
  unfold cutD
  rw [HT.sIx_nat, show HT.sIx (ws.map PyData.str).length (ws.map PyData.str).length none = (ws.map PyData.str).length from rfl]
  rw [List.take_of_length_le (by rw [List.length_drop]; omega)]
  rw [List.map_drop]
  by_cases h : d ≤ (ws.map PyData.str).length
  · rw [Nat.min_eq_left h]
  · rw [Nat.min_eq_right (by omega), List.drop_eq_nil_of_le (Nat.le_refl _), List.drop_eq_nil_of_le (by omega)]
theorem cut_to {ws : List Str} {d : Nat} : cutD (ws.map PyData.str) none (some (d : Int)) = (ws.take d).map .str := by
  unfold cutD
  rw [HT.sIx_nat, show HT.sIx (ws.map PyData.str).length 0 none = 0 from rfl, List.drop_zero, Nat.sub_zero, List.map_take]
  by_cases h : d ≤ (ws.map PyData.str).length
  · rw [Nat.min_eq_left h]
  · rw [Nat.min_eq_right (by omega), List.take_of_length_le (Nat.le_refl _), List.take_of_length_le (by omega)]
/-- the absent ones -/
theorem absent_eq {ns us : List Str} (ha : Asc ns) (hn : ns.Nodup) : srtS (SS.less (SS.once ns) (SS.once us)) = ns.filter (fun z => decide (z ∉ us)) := by
  rw [srt_eq (m := ns.filter fun z => decide (z ∉ us)) (less_nodup (SS.once_nodup _)) (hn.sublist List.filter_sublist) fun x => by rw [mem_less, SS.mem_once, SS.mem_once]; simp]
  exact srt_self (ha.sublist List.filter_sublist)
theorem obstacle_run (ss gs ns : List Str) (K : Int) (k : Nat) (ek : K = k) (hs : ss.length ≤ 1000) (hg : gs.length ≤ 1000) (hn : ns.length < 60) (ha : Asc ns) (nn : ns.Nodup) (hk : 1 ≤ k) :
    Sp (f_obstacle.run [tS ss, tS gs, tS ns, .int K]) (fun fr d o => fr = false ∧ d = obs ss gs ns k ∧ o = []) (fun _ _ => False) := by
  refine sp_run (n := 7) (md := [false, false, false, false]) (b := ir_obstacle) (tb := _) (ds := [tS ss, tS gs, tS ns, .int K]) rfl ?_
  delta ir_obstacle
  have sl := slE
  unfold tS
  wtm_at "go"
  have gl : (gs.map PyData.str).length = gs.length := by simp
  have nl : (ns.map PyData.str).length = ns.length := by simp
  rw [gl]
  refine Wp.calle (Sp.eq (prefix_run ss gs)) ?_
  have cl := cp_le ss gs
  wtm_at "go"
  refine Wp.sel (fun h1 => ?_) fun h1 => ?_
  · have h1 := of_decide_eq_true h1
    wtm_at "go"
    unfold obs
    rw [if_pos (by omega)]
  · have h1 := of_decide_eq_false h1
    have ob : obs ss gs ns k = match ns.filter (fun z => decide (z ∉ ss.drop gs.length)) with
        | a :: _ => .tuple [.str "missing", .str a]
        | [] => if k < ns.length ∧ offB ss gs ns = true then .tuple [.str "edge", tS ns] else .tuple [.none, .none] := by
      unfold obs
      rw [if_neg (by omega)]
    rw [ob]
    wtm_at "go"
    refine Wp.lift (setD_tS (by omega)) ?_
    wtm_at "go"
    rw [cut_from]
    refine Wp.lift (setD_tS (by rw [List.length_drop]; omega)) ?_
    wtm_at "go"
    have lt : (SS.once ns).length < 64 := by have := SS.once_len ns; omega
    refine Wp.lift (show srdD _ _ = some ((ns.filter fun z => decide (z ∉ ss.drop gs.length)).map .str) from by unfold srdD; rw [if_pos lt, absent_eq ha nn]) ?_
    wtm_at "go"
    have fe : ∀ z, z ∈ ns.filter (fun z => decide (z ∉ ss.drop gs.length)) ↔ (z ∈ ns ∧ z ∉ ss.drop gs.length) := fun z => by simp
    cases q : ns.filter (fun z => decide (z ∉ ss.drop gs.length)) with
    | cons a as => wtm_at "go"
    | nil =>
      rw [q] at fe
      wtm_at "go"
      rw [nl]
      refine Wp.sel (fun h2 => ?_) fun h2 => ?_
      · have h2 := of_decide_eq_true h2
        have kn : k < ns.length := by omega
        obtain ⟨w, hw⟩ : ∃ w, ss[gs.length]? = some w := by
          cases ns with
          | nil => simp at kn
          | cons z ns =>
            have hz : z ∈ ss.drop gs.length := by
              by_cases c : z ∈ ss.drop gs.length
              · exact c
              · have := (fe z).mpr ⟨List.mem_cons_self, c⟩
                cases this
            have := List.length_pos_of_mem hz
            rw [List.length_drop] at this
            exact ⟨_, List.getElem?_eq_getElem (by omega)⟩
        have ob2 : offB ss gs ns = decide (w ∉ ns) := by unfold offB; rw [hw]
        rw [ob2]
        wtm_at "go"
        refine Wp.lift (at_strs hw) ?_
        wtm_at "go"
        refine Wp.chkd mem_strs ?_
        rw [in_strs]
        wtm_at "go"
        refine Wp.sel (fun h3 => ?_) fun h3 => ?_
        · wtm_at "go"
          rw [if_pos ⟨kn, by simpa using h3⟩]
          rfl
        · wtm_at "go"
          rw [if_neg (by intro c; have := c.2; simp at h3 this; exact this h3)]
      · have h2 := of_decide_eq_false h2
        rw [if_neg (by omega)]
        wtm_at "br"
/-- the decision -/
def dec (ss ts cs : List Str) (k : Nat) : PyData :=
  match obs ss (ts.take (dep k cs ts)) (bare (ts.drop (dep k cs ts)) cs) k with
  | .tuple [.none, _] => .tuple [.str "reached", .int (dep k cs ts : Nat)]
  | .tuple [a, b] => .tuple [.str "blocked", .tuple [.int (dep k cs ts : Nat), if 0 < dep k cs ts then tS (bare (ts.drop (dep k cs ts)) cs) else .tuple [], a, b]]
  | d => d
theorem obs_form (ss gs ns : List Str) (k : Nat) : obs ss gs ns k = .tuple [.none, .none] ∨ ∃ s b, obs ss gs ns k = .tuple [.str s, b] := by
  unfold obs
  split
  · exact .inr ⟨_, _, rfl⟩
  · split
    · exact .inr ⟨_, _, rfl⟩
    · split
      · exact .inr ⟨_, _, rfl⟩
      · exact .inl rfl
theorem beside_run (ss ts cs : List Str) (K : Int) (k : Nat) (ek : K = k) (hs : ss.length ≤ 1000) (ht : ts.length ≤ 50) (hc : cs.length ≤ 1000) (hk : 1 ≤ k) :
    Sp (f_decide_beside.run [tS ss, tS ts, tS cs, .int K]) (fun fr d o => fr = false ∧ d = dec ss ts cs k ∧ o = []) (fun _ _ => False) := by
  refine sp_run (n := 9) (md := [false, false, false, false]) (b := ir_decide_beside) (tb := _) (ds := [tS ss, tS ts, tS cs, .int K]) rfl ?_
  delta ir_decide_beside
  have sl := slE
  unfold tS
  wtm_at "go"
  refine Wp.calle (Sp.eq (depth_run ts cs K k ek (by omega))) ?_
  have dl := dep_le (k := k) (cs := cs) ts
  have ob := obs_form ss (ts.take (dep k cs ts)) (bare (ts.drop (dep k cs ts)) cs) k
  have orun := obstacle_run ss (ts.take (dep k cs ts)) (bare (ts.drop (dep k cs ts)) cs) K k ek hs (by rw [List.length_take]; omega) (by
    have : (bare (ts.drop (dep k cs ts)) cs).length ≤ ts.length := List.Nodup.length_le_of_subset bare_nodup fun x hx => List.mem_of_mem_drop (mem_bare.mp hx).1
    omega) bare_asc bare_nodup hk
  have dd : dec ss ts cs k = match obs ss (ts.take (dep k cs ts)) (bare (ts.drop (dep k cs ts)) cs) k with
    | .tuple [.none, _] => .tuple [.str "reached", .int (dep k cs ts : Nat)]
    | .tuple [a, b] => .tuple [.str "blocked", .tuple [.int (dep k cs ts : Nat), if 0 < dep k cs ts then tS (bare (ts.drop (dep k cs ts)) cs) else .tuple [], a, b]]
    | d => d := rfl
  have cf := cut_from (ws := ts) (d := dep k cs ts)
  have ct := cut_to (ws := ts) (d := dep k cs ts)
  have bl : (SS.once (ts.drop (dep k cs ts))).length < 64 := by
    have := SS.once_len (ts.drop (dep k cs ts))
    rw [List.length_drop] at this
    omega
  have sd : srdD (SS.once (ts.drop (dep k cs ts))) (SS.once cs) = some ((bare (ts.drop (dep k cs ts)) cs).map .str) := by unfold srdD; rw [if_pos bl]; rfl
  have s1 := setD_tS (ws := ts.drop (dep k cs ts)) (by rw [List.length_drop]; omega)
  generalize obs ss (ts.take (dep k cs ts)) (bare (ts.drop (dep k cs ts)) cs) k = ox at ob orun dd
  rw [dd]
  generalize dep k cs ts = d at dl orun cf ct bl sd s1 ⊢
  wtm_at "go"
  rw [cf]
  refine Wp.lift s1 ?_
  wtm_at "go"
  refine Wp.lift (setD_tS hc) ?_
  wtm_at "go"
  refine Wp.lift sd ?_
  wtm_at "go"
  rw [ct]
  refine Wp.calle (Sp.eq orun) ?_
  rcases ob with rfl | ⟨s, b, rfl⟩
  · wtm_at "go"
  · wtm_at "go"
    refine Wp.sel (fun h => ?_) fun h => ?_
    · have h := of_decide_eq_true h
      wtm_at "go"
      rw [if_pos (by omega)]
      rfl
    · have h := of_decide_eq_false h
      wtm_at "go"
      rw [if_neg (by omega)]
theorem with_run (ss ts cs : List Str) (K : Int) (k : Nat) (ek : K = k) (hs : ss.length ≤ 1000) (ht : ts.length ≤ 50) (hc : cs.length ≤ 1000) (hk : 1 ≤ k) :
    Sp (f_decide_with_kw_constants_reach.run [tS ss, tS ts, tS cs, .int K]) (fun fr d o => fr = false ∧ d = dec ss ts cs k ∧ o = []) (fun _ _ => False) := by
  refine sp_run (n := 4) (md := [false, false, false, false]) (b := ir_decide_with) (tb := _) (ds := [tS ss, tS ts, tS cs, .int K]) rfl ?_
  delta ir_decide_with
  wtm_at "go"
  refine Wp.calle (Sp.eq (beside_run ss ts cs K k ek hs ht hc hk)) ?_
  wtm_at "go"
end K88
end
section
open PySem Di
local macro_rules | `(tactic| wtm_at "st") => `(tactic| simp -dsimp only [↓w_c, ↓w_v, ↓w_gc, ↓w_kdx, ↓w_bop, ↓w_rep, ↓w_neg, ↓w_cmp, ↓w_chn, ↓w_isn, ↓w_and, ↓w_or, ↓w_not, ↓w_ite, ↓w_tup, ↓w_lst, ↓w_dic0, ↓w_call, ↓w_blt, ↓w_rng, ↓w_isi, ↓w_ix, ↓w_sl, ↓w_rev, revD, ↓w_lc, ↓w_app, ↓w_ext, ↓w_pop, ↓w_cap_d, ↓w_cap_f, ↓w_cap_o, capS, ↓w_snil, ↓w_scons, ↓w_sstar, ↓w_vnil, ↓w_vcons, ↓w_mnil, ↓w_mf, ↓w_mt, ↓w_ono, ↓w_oe, ↓w_cno, ↓w_ce, ↓w_ie, ↓w_i1, ↓w_i2, ↓w_izip, ↓w_iez, ↓w_irvr, ↓w_srt, ↓w_srd, ↓w_lns, ↓w_popi, ↓w_jn, ↓w_sfi, ↓w_ins, ↓w_ebad, ↓w_sbad, ↓w_ien, txV, lstD, ↓w_dst, ownK, kOf, ezD, zipD, ↓w_asgn, ↓w_asgt, ↓w_set2, ↓w_aug, ↓w_six, ↓w_swp, ↓w_par, ↓w_exp, ↓w_ret, ↓w_retn, ↓w_ife, ↓w_for, ↓w_whl, ↓w_brk, ↓w_cnt, ↓w_pas, ↓w_nil, ↓w_cons, ↓nxt_nx, ↓nxt_rt, ↓nxt_bk, ↓nxt_ct, ↓w_asgV_d, ↓w_asgV_f, ↓w_asgV_o, ↓w_tst, ↓wp_ok, wp_ok, wp_ex, ↓wp_some, wp_some, ↓wp_chkt, wp_chkt, wp_selt, wp_self, ↓wp_bind, lift_if, lift_map, vV_sh, vV_ow, vV_rf, isB, isnD, fL, seqD, oI, shI, tup2, ↓slot_z, ↓slot_s, res, Sl.data, Sl.own, ↓copD_eq, ↓copD_ne, cmpS, cmpI, cmp_l00, cmp_t00, copD, bopD, ixD, slD, opI, at0, at1, at2, at3, at4, set3_0, set3_1, set3_2, truD, truOk, mkV, asgT, asgL, ↓setN_s, setN_zu, setN_zs, setN_zo, ↓setO_z, ↓setO_s, ownL, ↓chg_s, chg_zo, chg_zr, retV, outsE, mapM0, ↓mapM1, ↓mapM2, ↓mapM3, bltD, isiD, Es.len, Ar.slots, nodup, datas, Ar.data, puts, itD, ↓wipe1s, ↓wipe2s, wipe0, shn_sn, shn_sh, shn_un, keepE_nr, keepE_sn, setN_nr, setN_sn, Tg.slots, keepE_nil, keepE_sh, keepE_un, keepE_ow, keepE_rf, augD, initE, rgI, List.set_cons_zero, List.set_cons_succ, List.replicate_succ, List.replicate_zero, ln0, ln1, ln2, ln3, ln4, ln5, ln6, ln7, ln8, ln9, ln10, ln11, ln12, ln13, ln14, ln15, ln16, Option.map, Bool.false_or, Bool.or_false, Bool.true_or, Bool.or_true, Bool.false_and, Bool.true_and, Bool.and_false, Bool.and_true, true_or, or_true, decide_true, decide_false, Bool.false_eq_true, and_self, and_true, true_and, Bool.not_true, Bool.not_false, Bool.and_self, Bool.not_not, List.getElem?_cons_zero, List.getElem?_cons_succ, List.take_succ_cons, List.take_zero, List.drop_succ_cons, List.drop_zero, List.nil_append, List.append_nil, List.cons_append, List.contains_nil, filter_ff, eqv_tnil', isE_nil, isE_cons, eqvI, eqvS, eqv_nil, List.map_cons, List.map_nil, es_pp, es_pd, es_ps, es_dp, es_dd, es_ds, es_sp, es_sd, es_ss, ite_tt, ite_ff, ↓reduceIte, Prod.fst, Prod.snd, K11.md_law_pen, K88.md_law_draw, K88.md_law_values, K88.md_law_stack, K88.md_law_target, K88.md_law_constants, K88.md_law_reach, K88.md_depth_beside, K88.md_common_prefix, K88.md_obstacle, K88.md_decide_beside, K88.md_decide_with_kw_constants_reach, K88.md_reaches_with_kw_constants_reach, K88.md_law_bare, K88.md_law_decided, K88.md_law_right, K88.md_law, eqv_scr_nil, cmp_nil, wipe3s])
local macro_rules | `(tactic| wtm_at "ck") => `(tactic| with_reducible refine Wp.chkd (by first | assumption | omega | (have hsl := slE; (try simp only [List.length_cons, List.length_nil, List.length_append, List.length_map, List.length_replicate, List.length_dropLast, List.length_set, List.length_take, List.length_drop, List.length_reverse]); omega)) ?_)
local macro_rules | `(tactic| wtm_at "pk") => `(tactic| with_reducible refine Wp.draw (K11.pick_run _ _ _ _ (by omega) (by omega) (by omega) (by omega) (by omega)) ?_)
local macro_rules | `(tactic| wtm_at "rg") => `(tactic| with_reducible refine Wp.lift (rg62_ok (by omega)) ?_)
local macro_rules | `(tactic| wtm_at "al") => `(tactic| ((repeat (refine all_cons ⟨_, rfl, by omega, by omega⟩ ?_)); exact all_nil))
local macro_rules | `(tactic| wtm_at "go") => `(tactic| repeat (first | wtm_at "ck" | wtm_at "st"))
local macro_rules | `(tactic| wtm_at "sl") => `(tactic| (with_reducible apply Wp.sel) <;> intro hsel)
local macro_rules | `(tactic| wtm_at "br") => `(tactic| repeat' (first | wtm_at "ck" | (with_reducible refine Wp.selT (by assumption) ?_) | (with_reducible refine Wp.selF (by assumption) ?_) | wtm_at "sl" | wtm_at "st"))
local macro_rules | `(tactic| wtm_at "bd") => `(tactic| repeat' (first | wtm_at "ck" | (with_reducible refine Wp.selp (by omega) ?_) | (with_reducible refine Wp.seln (by omega) ?_) | ((with_reducible apply Wp.seld) <;> intro hsel) | wtm_at "st"))
namespace K88
open PySem Di Wd
theorem filt_strs {ws cs : List Str} : (ws.map PyData.str).filter (fun x => !inD x (cs.map .str)) = (ws.filter fun z => decide (z ∉ cs)).map .str := by
  induction ws with
  | nil => rfl
  | cons w ws ih =>
    rw [List.map_cons, List.filter_cons, List.filter_cons, ih, in_strs]
    by_cases h : w ∈ cs
    · rw [if_neg (by simp [h]), if_neg (by simp [h])]
    · rw [if_pos (by simp [h]), if_pos (by simp [h])]
      rfl
theorem bare_run (ws cs : List Str) (hl : ws.length ≤ 50) : Sp (f_law_bare.run [.tuple (ws.map .str), .tuple (cs.map .str)]) (fun fr d o => fr = true ∧ d = .list ((bare ws cs).map .str) ∧ o = []) (fun _ _ => False) := by
  refine sp_run (n := 3) (md := [false, false]) (b := ir_law_bare) (tb := _) (ds := [.tuple (ws.map .str), .tuple (cs.map .str)]) rfl ?_
  delta ir_law_bare
  have sl := slE
  wtm_at "go"
  refine Wp.lcF (fun x => !inD x (cs.map .str)) (fun x => x) (fun x hx => ?_) (by rw [List.length_map]; omega) ?_
  · obtain ⟨w, hw, rfl⟩ := List.mem_map.mp hx
    wtm_at "go"
    refine Wp.chkd mem_strs ?_
    wtm_at "go"
    refine Wp.sel (fun h3 => ?_) fun h3 => ?_
    · wtm_at "go"
      try exact fun _ => trivial
    · wtm_at "go"
      intro h
      rw [h3] at h
      cases h
  · wtm_at "go"
    rw [map_id', filt_strs]
    have fl : (ws.filter fun z => decide (z ∉ cs)).length ≤ ws.length := List.length_filter_le _ _
    have ol := SS.once_len (ws.filter fun z => decide (z ∉ cs))
    have e : srtD (.list ((ws.filter fun z => decide (z ∉ cs)).map .str)) = some ((bare ws cs).map .str) := by
      show ((strsL _).bind fun zs => if zs.length + 1 < 4096 ∧ (SS.once zs).length < 64 then some ((srtS (SS.once zs)).map PyData.str) else none) = _
      rw [strs_tup]
      show (if _ then _ else _) = _
      rw [if_pos ⟨by omega, by omega⟩, bare_eq]
    refine Wp.lift e ?_
    wtm_at "go"
def one (ss : List Str) (i : Nat) : List PyData := ((ss.drop i).take 1).map .str
theorem cut_one {ss : List Str} {i : Nat} : cutD (ss.map PyData.str) (some (i : Int)) (some ((i : Int) + 1)) = one ss i := by
  unfold cutD one
  rw [show (i : Int) + 1 = ((i + 1 : Nat) : Int) by omega, HT.sIx_nat, HT.sIx_nat, List.map_take, List.map_drop]
  by_cases h : i + 1 ≤ (ss.map PyData.str).length
  · rw [Nat.min_eq_left h, Nat.min_eq_left (by omega), show i + 1 - i = 1 by omega]
  · rw [Nat.min_eq_right (by omega : (ss.map PyData.str).length ≤ i + 1)]
    rw [List.drop_eq_nil_of_le (by omega : (ss.map PyData.str).length ≤ i), List.take_nil]
    by_cases g : i ≤ (ss.map PyData.str).length
    · rw [Nat.min_eq_left g, List.drop_eq_nil_of_le (by omega), List.take_nil]
    · rw [Nat.min_eq_right (by omega), List.drop_eq_nil_of_le (Nat.le_refl _), List.take_nil]
theorem one_get {ss : List Str} {i : Nat} : one ss i = match ss[i]? with | some w => [.str w] | none => [] := by
  unfold one
  cases h : ss[i]? with
  | none =>
    have := List.getElem?_eq_none_iff.mp h
    rw [List.drop_eq_nil_of_le this]
    rfl
  | some w =>
    obtain ⟨hi, e⟩ := List.getElem?_eq_some_iff.mp h
    rw [List.drop_eq_getElem_cons hi, e]
    rfl
theorem shaped_one {w : Str} (h : SeqAt.shaped (.str w) = true) : SeqAt.shaped (.tuple [.str w]) = true := by
  have a := SeqAt.canLay_of_shaped h
  unfold SeqAt.shaped
  rw [Bool.and_eq_true]
  exact ⟨by simp only [PyData.canLay0, PyData.canLayAll0] at a ⊢; rw [a]; rfl, by simp [PyData.depth, PyData.depthAll]⟩
theorem ne_one {ss ts : List Str} {i : Nat} (hs : ∀ z ∈ ss, SeqAt.shaped (.str z) = true) (ht : ∀ z ∈ ts, SeqAt.shaped (.str z) = true) :
    cmpOk (.tuple (one ss i)) (.tuple (one ts i)) = true ∧ PyData.eqv (.tuple (one ss i)) (.tuple (one ts i)) = decide (ss[i]? = ts[i]?) := by
  rw [one_get, one_get]
  cases a : ss[i]? with
  | none =>
    cases b : ts[i]? with
    | none => exact ⟨rfl, rfl⟩
    | some w => exact ⟨cmp_of rfl (shaped_one (ht w (List.mem_of_getElem? b))), rfl⟩
  | some v =>
    cases b : ts[i]? with
    | none => exact ⟨cmp_of (shaped_one (hs v (List.mem_of_getElem? a))) rfl, rfl⟩
    | some w =>
      refine ⟨cmp_of (shaped_one (hs v (List.mem_of_getElem? a))) (shaped_one (ht w (List.mem_of_getElem? b))), ?_⟩
      show (PyData.eqv (.str v) (.str w) && true) = _
      rw [eqv_ss, Bool.and_true]
      rw [Bool.eq_iff_iff, decide_eq_true_eq, decide_eq_true_eq, Option.some.injEq]
/-- the cells that are unlike -/
def unl (ss ts : List Str) (d : Nat) : List Nat := (List.range d).filter fun i => !decide (ss[i]? = ts[i]?)
def pU (ss ts : List Str) : PyData → Bool
  | .int i => !decide (ss[i.toNat]? = ts[i.toNat]?)
  | _ => false
theorem unl_eq {ss ts : List Str} {d : Nat} : (rgD 0 (d : Int)).filter (pU ss ts) = (unl ss ts d).map fun i => .int (i : Int) := by
  unfold rgD unl
  rw [show ((d : Int) - 0).toNat = d by omega, List.filter_map]
  have e : (List.range d).filter (pU ss ts ∘ fun (i : Nat) => PyData.int (0 + (i : Int))) = (List.range d).filter fun i => !decide (ss[i]? = ts[i]?) := by
    apply List.filter_congr
    intro i _
    show (!decide (ss[((0 : Int) + i).toNat]? = ts[((0 : Int) + i).toNat]?)) = _
    rw [show ((0 : Int) + i).toNat = i by omega]
  rw [e]
  apply List.map_congr_left
  intro i _
  rw [Int.zero_add]
theorem unl_ground {ss ts : List Str} {d : Nat} (hd : d ≤ ts.length) (h : cp ss (ts.take d) < d) : ∃ r, unl ss ts d = cp ss (ts.take d) :: r := by
  have tl : (ts.take d).length = d := by rw [List.length_take]; omega
  refine range_first (fun i hi => ?_) ?_ h
  · have := cp_alike ss (ts.take d) i hi
    rw [List.getElem?_take, if_pos (by omega)] at this
    rw [this]
    simp
  · have := cp_unlike ss (ts.take d) (by rw [tl]; exact h)
    rw [List.getElem?_take, if_pos h] at this
    simpa using this
theorem unl_none {ss ts : List Str} {d : Nat} (h : ¬cp ss (ts.take d) < d) : unl ss ts d = [] := by
  refine range_none fun i hi => ?_
  have := cp_alike ss (ts.take d) i (by omega)
  rw [List.getElem?_take, if_pos hi] at this
  rw [this]
  simp
end K88
end
section
open PySem Di
local macro_rules | `(tactic| wtm_at "st") => `(tactic| simp -dsimp only [↓w_c, ↓w_v, ↓w_gc, ↓w_kdx, ↓w_bop, ↓w_rep, ↓w_neg, ↓w_cmp, ↓w_chn, ↓w_isn, ↓w_and, ↓w_or, ↓w_not, ↓w_ite, ↓w_tup, ↓w_lst, ↓w_dic0, ↓w_call, ↓w_blt, ↓w_rng, ↓w_isi, ↓w_ix, ↓w_sl, ↓w_rev, revD, ↓w_lc, ↓w_app, ↓w_ext, ↓w_pop, ↓w_cap_d, ↓w_cap_f, ↓w_cap_o, capS, ↓w_snil, ↓w_scons, ↓w_sstar, ↓w_vnil, ↓w_vcons, ↓w_mnil, ↓w_mf, ↓w_mt, ↓w_ono, ↓w_oe, ↓w_cno, ↓w_ce, ↓w_ie, ↓w_i1, ↓w_i2, ↓w_izip, ↓w_iez, ↓w_irvr, ↓w_srt, ↓w_srd, ↓w_lns, ↓w_popi, ↓w_jn, ↓w_sfi, ↓w_ins, ↓w_ebad, ↓w_sbad, ↓w_ien, txV, lstD, ↓w_dst, ownK, kOf, ezD, zipD, ↓w_asgn, ↓w_asgt, ↓w_set2, ↓w_aug, ↓w_six, ↓w_swp, ↓w_par, ↓w_exp, ↓w_ret, ↓w_retn, ↓w_ife, ↓w_for, ↓w_whl, ↓w_brk, ↓w_cnt, ↓w_pas, ↓w_nil, ↓w_cons, ↓nxt_nx, ↓nxt_rt, ↓nxt_bk, ↓nxt_ct, ↓w_asgV_d, ↓w_asgV_f, ↓w_asgV_o, ↓w_tst, ↓wp_ok, wp_ok, wp_ex, ↓wp_some, wp_some, ↓wp_chkt, wp_chkt, wp_selt, wp_self, ↓wp_bind, lift_if, lift_map, vV_sh, vV_ow, vV_rf, isB, isnD, fL, seqD, oI, shI, tup2, ↓slot_z, ↓slot_s, res, Sl.data, Sl.own, ↓copD_eq, ↓copD_ne, cmpS, cmpI, cmp_l00, cmp_t00, copD, bopD, ixD, slD, opI, at0, at1, at2, at3, at4, set3_0, set3_1, set3_2, truD, truOk, mkV, asgT, asgL, ↓setN_s, setN_zu, setN_zs, setN_zo, ↓setO_z, ↓setO_s, ownL, ↓chg_s, chg_zo, chg_zr, retV, outsE, mapM0, ↓mapM1, ↓mapM2, ↓mapM3, bltD, isiD, Es.len, Ar.slots, nodup, datas, Ar.data, puts, itD, ↓wipe1s, ↓wipe2s, wipe0, shn_sn, shn_sh, shn_un, keepE_nr, keepE_sn, setN_nr, setN_sn, Tg.slots, keepE_nil, keepE_sh, keepE_un, keepE_ow, keepE_rf, augD, initE, rgI, List.set_cons_zero, List.set_cons_succ, List.replicate_succ, List.replicate_zero, ln0, ln1, ln2, ln3, ln4, ln5, ln6, ln7, ln8, ln9, ln10, ln11, ln12, ln13, ln14, ln15, ln16, Option.map, Bool.false_or, Bool.or_false, Bool.true_or, Bool.or_true, Bool.false_and, Bool.true_and, Bool.and_false, Bool.and_true, true_or, or_true, decide_true, decide_false, Bool.false_eq_true, and_self, and_true, true_and, Bool.not_true, Bool.not_false, Bool.and_self, Bool.not_not, List.getElem?_cons_zero, List.getElem?_cons_succ, List.take_succ_cons, List.take_zero, List.drop_succ_cons, List.drop_zero, List.nil_append, List.append_nil, List.cons_append, List.contains_nil, filter_ff, eqv_tnil', isE_nil, isE_cons, eqvI, eqvS, eqv_nil, List.map_cons, List.map_nil, es_pp, es_pd, es_ps, es_dp, es_dd, es_ds, es_sp, es_sd, es_ss, ite_tt, ite_ff, ↓reduceIte, Prod.fst, Prod.snd, K11.md_law_pen, K88.md_law_draw, K88.md_law_values, K88.md_law_stack, K88.md_law_target, K88.md_law_constants, K88.md_law_reach, K88.md_depth_beside, K88.md_common_prefix, K88.md_obstacle, K88.md_decide_beside, K88.md_decide_with_kw_constants_reach, K88.md_reaches_with_kw_constants_reach, K88.md_law_bare, K88.md_law_decided, K88.md_law_right, K88.md_law, eqv_scr_nil, cmp_nil, wipe3s])
local macro_rules | `(tactic| wtm_at "ck") => `(tactic| with_reducible refine Wp.chkd (by first | assumption | omega | (have hsl := slE; (try simp only [List.length_cons, List.length_nil, List.length_append, List.length_map, List.length_replicate, List.length_dropLast, List.length_set, List.length_take, List.length_drop, List.length_reverse]); omega)) ?_)
local macro_rules | `(tactic| wtm_at "pk") => `(tactic| with_reducible refine Wp.draw (K11.pick_run _ _ _ _ (by omega) (by omega) (by omega) (by omega) (by omega)) ?_)
local macro_rules | `(tactic| wtm_at "rg") => `(tactic| with_reducible refine Wp.lift (rg62_ok (by omega)) ?_)
local macro_rules | `(tactic| wtm_at "al") => `(tactic| ((repeat (refine all_cons ⟨_, rfl, by omega, by omega⟩ ?_)); exact all_nil))
local macro_rules | `(tactic| wtm_at "go") => `(tactic| repeat (first | wtm_at "ck" | wtm_at "st"))
local macro_rules | `(tactic| wtm_at "sl") => `(tactic| (with_reducible apply Wp.sel) <;> intro hsel)
local macro_rules | `(tactic| wtm_at "br") => `(tactic| repeat' (first | wtm_at "ck" | (with_reducible refine Wp.selT (by assumption) ?_) | (with_reducible refine Wp.selF (by assumption) ?_) | wtm_at "sl" | wtm_at "st"))
local macro_rules | `(tactic| wtm_at "bd") => `(tactic| repeat' (first | wtm_at "ck" | (with_reducible refine Wp.selp (by omega) ?_) | (with_reducible refine Wp.seln (by omega) ?_) | ((with_reducible apply Wp.seld) <;> intro hsel) | wtm_at "st"))
namespace K88
open PySem Di Wd
theorem decided_run (ss ts cs : List Str) (K : Int) (k : Nat) (ek : K = k) (hs : ss.length ≤ 40) (ht : ts.length ≤ 40) (hk : 1 ≤ k) (os : ∀ z ∈ ss, SeqAt.shaped (.str z) = true) (ot : ∀ z ∈ ts, SeqAt.shaped (.str z) = true) :
    Sp (f_law_decided.run [tS ss, tS ts, tS cs, .int K]) (fun fr d o => fr = false ∧ d = dec ss ts cs k ∧ o = []) (fun _ _ => False) := by
  refine sp_run (n := 11) (md := [false, false, false, false]) (b := ir_law_decided) (tb := _) (ds := [tS ss, tS ts, tS cs, .int K]) rfl ?_
  delta ir_law_decided
  have sl := slE
  unfold tS
  wtm_at "go"
  refine Wp.whl (fun n r => ∃ (d : Nat), r = [.sh (.tuple (ss.map .str)), .sh (.tuple (ts.map .str)), .sh (.tuple (cs.map .str)), .sh (.int K), .sh (.int (d : Int)), .un, .un, .un, .un, .un, .un] ∧ d + n = dep k cs ts) ?step (k := 1000000) (n := dep k cs ts) ⟨0, rfl, Nat.zero_add _⟩ ?lt
  case lt => have := dep_le (k := k) (cs := cs) ts; omega
  rintro n r ⟨d, rfl, hn⟩
  have e1 : (d : Int) + 1 = ((d + 1 : Nat) : Int) := by omega
  wtm_at "go"
  rw [e1, cut_from]
  refine Wp.call (bare_run (ts.drop (d + 1)) cs (by rw [List.length_drop]; omega)) (fun fr x o e => ?_) fun _ _ h => h.elim
  obtain ⟨rfl, rfl, rfl⟩ := e
  have bl : ((bare (ts.drop (d + 1)) cs).map PyData.str).length = cnt (ts.drop (d + 1)) cs := by rw [List.length_map]; rfl
  wtm_at "go"
  rw [bl]
  refine Wp.sel (fun h1 => ?_) fun h1 => ?_
  · have h1 := of_decide_eq_true h1
    have := dep_step (k := k) (cs := cs) (ws := ts) (d := d) (by omega) (by omega)
    wtm_at "go"
    exact ⟨n - 1, by omega, d + 1, rfl, by omega⟩
  · have h1 := of_decide_eq_false h1
    have ed := dep_done (k := k) (cs := cs) (ws := ts) (d := d) (by omega) (by omega)
    have dl := dep_le (k := k) (cs := cs) ts
    have dc := dep_cnt (k := k) (cs := cs) ts
    have dd : dec ss ts cs k = match obs ss (ts.take (dep k cs ts)) (bare (ts.drop (dep k cs ts)) cs) k with
      | .tuple [.none, _] => .tuple [.str "reached", .int (dep k cs ts : Nat)]
      | .tuple [a, b] => .tuple [.str "blocked", .tuple [.int (dep k cs ts : Nat), if 0 < dep k cs ts then tS (bare (ts.drop (dep k cs ts)) cs) else .tuple [], a, b]]
      | d => d := rfl
    rw [← ed] at dl dc dd
    have br := bare_run (ts.drop d) cs (by rw [List.length_drop]; omega)
    have na : Asc (bare (ts.drop d) cs) := bare_asc
    have nn : (bare (ts.drop d) cs).Nodup := bare_nodup
    have nl : (bare (ts.drop d) cs).length ≤ k + 1 := dc
    have n40 : (bare (ts.drop d) cs).length ≤ 40 := by
      have : (bare (ts.drop d) cs).length ≤ ts.length := List.Nodup.length_le_of_subset bare_nodup fun x hx => List.mem_of_mem_drop (mem_bare.mp hx).1
      omega
    rw [dd]
    clear dd
    generalize bare (ts.drop d) cs = ns at br na nn nl n40 ⊢
    have gl : (ts.take d).length = d := by rw [List.length_take]; omega
    have cut1 : cutD (ns.map PyData.str) none (some (K + 1)) = ns.map .str := by
      rw [show K + 1 = ((k + 1 : Nat) : Int) by omega, cut_to, List.take_of_length_le nl]
    wtm_at "go"
    rw [cut_from]
    refine Wp.call br (fun fr x o e => ?_) fun _ _ h => h.elim
    obtain ⟨rfl, rfl, rfl⟩ := e
    have rl : (rgD 0 (d : Int)).length = d := by unfold rgD; simp
    have rm : ∀ x ∈ rgD 0 (d : Int), ∃ i : Nat, x = .int (i : Int) := fun x hx => by
      unfold rgD at hx
      obtain ⟨i, _, rfl⟩ := List.mem_map.mp hx
      exact ⟨i, by rw [Int.zero_add]⟩
    have nlen : (ns.map PyData.str).length = ns.length := by simp
    have fe : ∀ z, z ∈ ns.filter (fun z => decide (z ∉ ss.drop d)) ↔ (z ∈ ns ∧ z ∉ ss.drop d) := fun z => by simp
    wtm_at "go"
    refine Wp.sel (fun h2 => ?_) fun h2 => ?_
    · have h2 := of_decide_eq_true h2
      have ew : (if 0 < d then tS ns else PyData.tuple []) = .tuple (ns.map .str) := if_pos (by omega)
      rw [ew]
      wtm_at "go"
      rw [cut1]
      wtm_at "go"
      generalize PyData.tuple (ns.map .str) = wv
      wtm_at "rg"
      wtm_at "go"
      refine Wp.lcF (pU ss ts) (fun x => x) (fun x hx => ?_) (by rw [rl]; omega) ?_
      · obtain ⟨i, rfl⟩ := rm x hx
        have ne := ne_one (i := i) os ot
        wtm_at "go"
        rw [cut_one]
        wtm_at "go"
        rw [cut_one]
        wtm_at "go"
        refine Wp.chkd ne.1 ?_
        rw [ne.2]
        wtm_at "go"
        refine ⟨rfl, ?_⟩
        refine Wp.sel (fun h3 => ?_) fun h3 => ?_
        · wtm_at "go"
          try exact fun _ => trivial
        · wtm_at "go"
          intro h
          have h : (!decide (ss[i]? = ts[i]?)) = true := h
          rw [h3] at h
          cases h
      · wtm_at "go"
        rw [map_id', unl_eq]
        wtm_at "go"
        refine Wp.lcF (fun x => !inD x ((ss.drop d).map .str)) (fun x => x) (fun x hx => ?_) (by rw [nlen]; omega) ?_
        · obtain ⟨w, hw, rfl⟩ := List.mem_map.mp hx
          wtm_at "go"
          rw [cut_from]
          wtm_at "go"
          refine Wp.chkd mem_strs ?_
          wtm_at "go"
          refine Wp.sel (fun h3 => ?_) fun h3 => ?_
          · wtm_at "go"
            try exact fun _ => trivial
          · wtm_at "go"
            intro h
            rw [h3] at h
            cases h
        · wtm_at "go"
          rw [map_id', filt_strs]
          wtm_at "go"
          by_cases g : cp ss (ts.take d) < d
          · obtain ⟨r, er⟩ := unl_ground dl g
            rw [er, List.map_cons]
            wtm_at "go"
            unfold obs
            rw [if_pos (by rw [gl]; exact g)]
          · have ob : obs ss (ts.take d) ns k = match ns.filter (fun z => decide (z ∉ ss.drop d)) with
                | a :: _ => .tuple [.str "missing", .str a]
                | [] => if k < ns.length ∧ offB ss (ts.take d) ns = true then .tuple [.str "edge", tS ns] else .tuple [.none, .none] := by
              unfold obs
              rw [gl, if_neg g]
              try rfl
            rw [unl_none g, List.map_nil, ob]
            clear ob
            wtm_at "go"
            cases q : ns.filter (fun z => decide (z ∉ ss.drop d)) with
            | cons a as =>
              rw [List.map_cons]
              wtm_at "go"
            | nil =>
              rw [q] at fe
              rw [List.map_nil]
              wtm_at "go"
              rw [nlen]
              refine Wp.sel (fun h4 => ?_) fun h4 => ?_
              · have h4 := of_decide_eq_true h4
                have kn : k < ns.length := by omega
                obtain ⟨w, hw⟩ : ∃ w, ss[d]? = some w := by
                  cases ns with
                  | nil => simp at kn
                  | cons z ns =>
                    have hz : z ∈ ss.drop d := by
                      by_cases c : z ∈ ss.drop d
                      · exact c
                      · have := (fe z).mpr ⟨List.mem_cons_self, c⟩
                        cases this
                    have := List.length_pos_of_mem hz
                    rw [List.length_drop] at this
                    exact ⟨_, List.getElem?_eq_getElem (by omega)⟩
                have ob2 : offB ss (ts.take d) ns = decide (w ∉ ns) := by unfold offB; rw [gl, hw]
                rw [ob2]
                wtm_at "go"
                refine Wp.lift (at_strs hw) ?_
                wtm_at "go"
                refine Wp.chkd mem_strs ?_
                rw [in_strs]
                wtm_at "go"
                refine Wp.sel (fun h5 => ?_) fun h5 => ?_
                · wtm_at "go"
                  rw [cut1]
                  wtm_at "go"
                  rw [if_pos ⟨kn, by simpa using h5⟩]
                  rfl
                · wtm_at "go"
                  rw [if_neg (by intro c; have := c.2; simp at h5 this; exact this h5)]
              · have h4 := of_decide_eq_false h4
                rw [if_neg (by omega)]
                wtm_at "br"
    · have h2 := of_decide_eq_false h2
      have ew : (if 0 < d then tS ns else PyData.tuple []) = .tuple [] := if_neg (by omega)
      rw [ew]
      wtm_at "go"
      generalize PyData.tuple [] = wv
      wtm_at "rg"
      wtm_at "go"
      refine Wp.lcF (pU ss ts) (fun x => x) (fun x hx => ?_) (by rw [rl]; omega) ?_
      · obtain ⟨i, rfl⟩ := rm x hx
        have ne := ne_one (i := i) os ot
        wtm_at "go"
        rw [cut_one]
        wtm_at "go"
        rw [cut_one]
        wtm_at "go"
        refine Wp.chkd ne.1 ?_
        rw [ne.2]
        wtm_at "go"
        refine ⟨rfl, ?_⟩
        refine Wp.sel (fun h3 => ?_) fun h3 => ?_
        · wtm_at "go"
          try exact fun _ => trivial
        · wtm_at "go"
          intro h
          have h : (!decide (ss[i]? = ts[i]?)) = true := h
          rw [h3] at h
          cases h
      · wtm_at "go"
        rw [map_id', unl_eq]
        wtm_at "go"
        refine Wp.lcF (fun x => !inD x ((ss.drop d).map .str)) (fun x => x) (fun x hx => ?_) (by rw [nlen]; omega) ?_
        · obtain ⟨w, hw, rfl⟩ := List.mem_map.mp hx
          wtm_at "go"
          rw [cut_from]
          wtm_at "go"
          refine Wp.chkd mem_strs ?_
          wtm_at "go"
          refine Wp.sel (fun h3 => ?_) fun h3 => ?_
          · wtm_at "go"
            try exact fun _ => trivial
          · wtm_at "go"
            intro h
            rw [h3] at h
            cases h
        · wtm_at "go"
          rw [map_id', filt_strs]
          wtm_at "go"
          by_cases g : cp ss (ts.take d) < d
          · obtain ⟨r, er⟩ := unl_ground dl g
            rw [er, List.map_cons]
            wtm_at "go"
            unfold obs
            rw [if_pos (by rw [gl]; exact g)]
          · have ob : obs ss (ts.take d) ns k = match ns.filter (fun z => decide (z ∉ ss.drop d)) with
                | a :: _ => .tuple [.str "missing", .str a]
                | [] => if k < ns.length ∧ offB ss (ts.take d) ns = true then .tuple [.str "edge", tS ns] else .tuple [.none, .none] := by
              unfold obs
              rw [gl, if_neg g]
              try rfl
            rw [unl_none g, List.map_nil, ob]
            clear ob
            wtm_at "go"
            cases q : ns.filter (fun z => decide (z ∉ ss.drop d)) with
            | cons a as =>
              rw [List.map_cons]
              wtm_at "go"
            | nil =>
              rw [q] at fe
              rw [List.map_nil]
              wtm_at "go"
              rw [nlen]
              refine Wp.sel (fun h4 => ?_) fun h4 => ?_
              · have h4 := of_decide_eq_true h4
                have kn : k < ns.length := by omega
                obtain ⟨w, hw⟩ : ∃ w, ss[d]? = some w := by
                  cases ns with
                  | nil => simp at kn
                  | cons z ns =>
                    have hz : z ∈ ss.drop d := by
                      by_cases c : z ∈ ss.drop d
                      · exact c
                      · have := (fe z).mpr ⟨List.mem_cons_self, c⟩
                        cases this
                    have := List.length_pos_of_mem hz
                    rw [List.length_drop] at this
                    exact ⟨_, List.getElem?_eq_getElem (by omega)⟩
                have ob2 : offB ss (ts.take d) ns = decide (w ∉ ns) := by unfold offB; rw [gl, hw]
                rw [ob2]
                wtm_at "go"
                refine Wp.lift (at_strs hw) ?_
                wtm_at "go"
                refine Wp.chkd mem_strs ?_
                rw [in_strs]
                wtm_at "go"
                refine Wp.sel (fun h5 => ?_) fun h5 => ?_
                · wtm_at "go"
                  rw [cut1]
                  wtm_at "go"
                  rw [if_pos ⟨kn, by simpa using h5⟩]
                  rfl
                · wtm_at "go"
                  rw [if_neg (by intro c; have := c.2; simp at h5 this; exact this h5)]
              · have h4 := of_decide_eq_false h4
                rw [if_neg (by omega)]
                wtm_at "br"
end K88
end
section
open PySem Di
local macro_rules | `(tactic| wtm_at "st") => `(tactic| simp -dsimp only [↓w_c, ↓w_v, ↓w_gc, ↓w_kdx, ↓w_bop, ↓w_rep, ↓w_neg, ↓w_cmp, ↓w_chn, ↓w_isn, ↓w_and, ↓w_or, ↓w_not, ↓w_ite, ↓w_tup, ↓w_lst, ↓w_dic0, ↓w_call, ↓w_blt, ↓w_rng, ↓w_isi, ↓w_ix, ↓w_sl, ↓w_rev, revD, ↓w_lc, ↓w_app, ↓w_ext, ↓w_pop, ↓w_cap_d, ↓w_cap_f, ↓w_cap_o, capS, ↓w_snil, ↓w_scons, ↓w_sstar, ↓w_vnil, ↓w_vcons, ↓w_mnil, ↓w_mf, ↓w_mt, ↓w_ono, ↓w_oe, ↓w_cno, ↓w_ce, ↓w_ie, ↓w_i1, ↓w_i2, ↓w_izip, ↓w_iez, ↓w_irvr, ↓w_srt, ↓w_srd, ↓w_lns, ↓w_popi, ↓w_jn, ↓w_sfi, ↓w_ins, ↓w_ebad, ↓w_sbad, ↓w_ien, txV, lstD, ↓w_dst, ownK, kOf, ezD, zipD, ↓w_asgn, ↓w_asgt, ↓w_set2, ↓w_aug, ↓w_six, ↓w_swp, ↓w_par, ↓w_exp, ↓w_ret, ↓w_retn, ↓w_ife, ↓w_for, ↓w_whl, ↓w_brk, ↓w_cnt, ↓w_pas, ↓w_nil, ↓w_cons, ↓nxt_nx, ↓nxt_rt, ↓nxt_bk, ↓nxt_ct, ↓w_asgV_d, ↓w_asgV_f, ↓w_asgV_o, ↓w_tst, ↓wp_ok, wp_ok, wp_ex, ↓wp_some, wp_some, ↓wp_chkt, wp_chkt, wp_selt, wp_self, ↓wp_bind, lift_if, lift_map, vV_sh, vV_ow, vV_rf, isB, isnD, fL, seqD, oI, shI, tup2, ↓slot_z, ↓slot_s, res, Sl.data, Sl.own, ↓copD_eq, ↓copD_ne, cmpS, cmpI, cmp_l00, cmp_t00, copD, bopD, ixD, slD, opI, at0, at1, at2, at3, at4, set3_0, set3_1, set3_2, truD, truOk, mkV, asgT, asgL, ↓setN_s, setN_zu, setN_zs, setN_zo, ↓setO_z, ↓setO_s, ownL, ↓chg_s, chg_zo, chg_zr, retV, outsE, mapM0, ↓mapM1, ↓mapM2, ↓mapM3, bltD, isiD, Es.len, Ar.slots, nodup, datas, Ar.data, puts, itD, ↓wipe1s, ↓wipe2s, wipe0, shn_sn, shn_sh, shn_un, keepE_nr, keepE_sn, setN_nr, setN_sn, Tg.slots, keepE_nil, keepE_sh, keepE_un, keepE_ow, keepE_rf, augD, initE, rgI, List.set_cons_zero, List.set_cons_succ, List.replicate_succ, List.replicate_zero, ln0, ln1, ln2, ln3, ln4, ln5, ln6, ln7, ln8, ln9, ln10, ln11, ln12, ln13, ln14, ln15, ln16, Option.map, Bool.false_or, Bool.or_false, Bool.true_or, Bool.or_true, Bool.false_and, Bool.true_and, Bool.and_false, Bool.and_true, true_or, or_true, decide_true, decide_false, Bool.false_eq_true, and_self, and_true, true_and, Bool.not_true, Bool.not_false, Bool.and_self, Bool.not_not, List.getElem?_cons_zero, List.getElem?_cons_succ, List.take_succ_cons, List.take_zero, List.drop_succ_cons, List.drop_zero, List.nil_append, List.append_nil, List.cons_append, List.contains_nil, filter_ff, eqv_tnil', isE_nil, isE_cons, eqvI, eqvS, eqv_nil, List.map_cons, List.map_nil, es_pp, es_pd, es_ps, es_dp, es_dd, es_ds, es_sp, es_sd, es_ss, ite_tt, ite_ff, ↓reduceIte, Prod.fst, Prod.snd, K11.md_law_pen, K88.md_law_draw, K88.md_law_values, K88.md_law_stack, K88.md_law_target, K88.md_law_constants, K88.md_law_reach, K88.md_depth_beside, K88.md_common_prefix, K88.md_obstacle, K88.md_decide_beside, K88.md_decide_with_kw_constants_reach, K88.md_reaches_with_kw_constants_reach, K88.md_law_bare, K88.md_law_decided, K88.md_law_right, K88.md_law, eqv_scr_nil, cmp_nil, wipe3s])
local macro_rules | `(tactic| wtm_at "ck") => `(tactic| with_reducible refine Wp.chkd (by first | assumption | omega | (have hsl := slE; (try simp only [List.length_cons, List.length_nil, List.length_append, List.length_map, List.length_replicate, List.length_dropLast, List.length_set, List.length_take, List.length_drop, List.length_reverse]); omega)) ?_)
local macro_rules | `(tactic| wtm_at "pk") => `(tactic| with_reducible refine Wp.draw (K11.pick_run _ _ _ _ (by omega) (by omega) (by omega) (by omega) (by omega)) ?_)
local macro_rules | `(tactic| wtm_at "rg") => `(tactic| with_reducible refine Wp.lift (rg62_ok (by omega)) ?_)
local macro_rules | `(tactic| wtm_at "al") => `(tactic| ((repeat (refine all_cons ⟨_, rfl, by omega, by omega⟩ ?_)); exact all_nil))
local macro_rules | `(tactic| wtm_at "go") => `(tactic| repeat (first | wtm_at "ck" | wtm_at "st"))
local macro_rules | `(tactic| wtm_at "sl") => `(tactic| (with_reducible apply Wp.sel) <;> intro hsel)
local macro_rules | `(tactic| wtm_at "br") => `(tactic| repeat' (first | wtm_at "ck" | (with_reducible refine Wp.selT (by assumption) ?_) | (with_reducible refine Wp.selF (by assumption) ?_) | wtm_at "sl" | wtm_at "st"))
local macro_rules | `(tactic| wtm_at "bd") => `(tactic| repeat' (first | wtm_at "ck" | (with_reducible refine Wp.selp (by omega) ?_) | (with_reducible refine Wp.seln (by omega) ?_) | ((with_reducible apply Wp.seld) <;> intro hsel) | wtm_at "st"))
namespace K88
open PySem Di Wd
/-- the words that are drawn -/
def pool : List Str := [Str.ofString "a", Str.ofString "b", Str.ofString "c", Str.ofString "ab", Str.ofString "ba", Str.ofString "z", Str.ofString "aa", Str.ofString "hh", Str.ofString "abcdefgh", Str.ofString "zzzzzzzz", Str.ofString "q", Str.ofString "x", Str.ofString "kk", Str.ofString "mm", Str.ofString "d", Str.ofString "e", Str.ofString "f", Str.ofString "g", Str.ofString "h", Str.ofString "i", Str.ofString "j", Str.ofString "k", Str.ofString "l", Str.ofString "m", Str.ofString "n", Str.ofString "o", Str.ofString "p", Str.ofString "r", Str.ofString "s", Str.ofString "t", Str.ofString "u", Str.ofString "v", Str.ofString "w", Str.ofString "y", Str.ofString "bb", Str.ofString "cc", Str.ofString "dd", Str.ofString "ee", Str.ofString "ff", Str.ofString "gg", Str.ofString "ii", Str.ofString "jj", Str.ofString "ll", Str.ofString "nn"]
theorem pool_all : (pool.all fun w => w.cps.toList.all (fun c => decide (c < 128)) && decide (w.cps.size ≤ 8)) = true := by decide +kernel
def Gw (w : Str) : Prop := (w.cps.toList.all (fun c => decide (c < 128)) && decide (w.cps.size ≤ 8)) = true
theorem pool_gw {w : Str} (h : w ∈ pool) : Gw w := List.all_eq_true.mp pool_all w h
theorem pool_gd {k : Nat} {w : Str} (h : Gw w) : Gd k 8 (.str w) := by
  have a := h
  unfold Gw at a
  rw [Bool.and_eq_true] at a
  exact (Gd.str (fun c hc => of_decide_eq_true (List.all_eq_true.mp a.1 c hc))).mono (Nat.le_refl _) (of_decide_eq_true a.2)
def Ok (ws : List Str) : Prop := ∀ w ∈ ws, Gw w
theorem tS_gd {ws : List Str} (h : Ok ws) (hl : ws.length ≤ 40) : Gd 1 360 (tS ws) := by
  have := Gd.tup (k := 0) (m := 8) (xs := ws.map .str) fun x hx => by
    obtain ⟨w, hw, rfl⟩ := List.mem_map.mp hx
    exact pool_gd (h w hw)
  rw [List.length_map] at this
  exact this.mono (Nat.le_refl _) (by omega)
theorem int_gd {k m : Nat} {n : Nat} (h : n ≤ 40) : Gd k m (.int (n : Int)) := Gd.int' (by
  have : (2 : Nat) ^ 10 ≤ 2 ^ 1900 := Nat.pow_le_pow_right (by omega) (by omega)
  omega)
theorem lit_gd {k : Nat} {s : Str} (h : s ∈ [Str.ofString "ground", Str.ofString "missing", Str.ofString "edge", Str.ofString "reached", Str.ofString "blocked"]) : Gd k 360 (.str s) := by
  have all : ([Str.ofString "ground", Str.ofString "missing", Str.ofString "edge", Str.ofString "reached", Str.ofString "blocked"].all fun w => w.cps.toList.all (fun c => decide (c < 128)) && decide (w.cps.size ≤ 360)) = true := by decide +kernel
  have a := List.all_eq_true.mp all s h
  rw [Bool.and_eq_true] at a
  exact (Gd.str (fun c hc => of_decide_eq_true (List.all_eq_true.mp a.1 c hc))).mono (Nat.le_refl _) (of_decide_eq_true a.2)
theorem gd2 {k m : Nat} {x y : PyData} (h : Gd k m x) (g : Gd k m y) : Gd (k + 1) (2 * (m + 1)) (.tuple [x, y]) := Gd.tup (xs := [x, y]) fun z hz => by
  rcases List.mem_cons.mp hz with rfl | hz
  · exact h
  · rw [List.mem_singleton.mp hz]; exact g
theorem gd4 {k m : Nat} {x y z w : PyData} (h : Gd k m x) (g : Gd k m y) (f : Gd k m z) (e : Gd k m w) : Gd (k + 1) (4 * (m + 1)) (.tuple [x, y, z, w]) := Gd.tup (xs := [x, y, z, w]) fun u hu => by
  rcases List.mem_cons.mp hu with rfl | hu
  · exact h
  rcases List.mem_cons.mp hu with rfl | hu
  · exact g
  rcases List.mem_cons.mp hu with rfl | hu
  · exact f
  · rw [List.mem_singleton.mp hu]; exact e
theorem obs_gd {ss gs ns : List Str} {k : Nat} (hn : Ok ns) (ln : ns.length ≤ 40) (lg : gs.length ≤ 40) :
    obs ss gs ns k = .tuple [.none, .none] ∨ ∃ s b, obs ss gs ns k = .tuple [.str s, b] ∧ Gd 1 360 (.str s) ∧ Gd 1 360 b := by
  have cl := cp_le ss gs
  unfold obs
  split
  · exact .inr ⟨_, _, rfl, lit_gd (by simp), int_gd (by omega)⟩
  · split
    · rename_i a as q
      have ha : a ∈ ns := by
        have : a ∈ ns.filter (fun z => decide (z ∉ ss.drop gs.length)) := by rw [q]; exact List.mem_cons_self
        exact (List.mem_filter.mp this).1
      exact .inr ⟨_, _, rfl, lit_gd (by simp), (pool_gd (hn a ha)).mono (Nat.le_refl _) (by omega)⟩
    · split
      · exact .inr ⟨_, _, rfl, lit_gd (by simp), tS_gd hn ln⟩
      · exact .inl rfl
def rch (d : PyData) : Bool := match d with
  | .tuple [.str s, _] => decide (s = Str.ofString "reached")
  | _ => false
theorem dec_form {ss ts cs : List Str} {k : Nat} (ht : Ok ts) (lt : ts.length ≤ 40) :
    ∃ s b, dec ss ts cs k = .tuple [.str s, b] ∧ Gd 3 2890 (dec ss ts cs k) := by
  have dl := dep_le (k := k) (cs := cs) ts
  have nn : Ok (bare (ts.drop (dep k cs ts)) cs) := fun w hw => ht w (List.mem_of_mem_drop (mem_bare.mp hw).1)
  have n40 : (bare (ts.drop (dep k cs ts)) cs).length ≤ 40 := by
    have : (bare (ts.drop (dep k cs ts)) cs).length ≤ ts.length := List.Nodup.length_le_of_subset bare_nodup fun x hx => List.mem_of_mem_drop (mem_bare.mp hx).1
    omega
  have og := obs_gd (ss := ss) (gs := ts.take (dep k cs ts)) (ns := bare (ts.drop (dep k cs ts)) cs) (k := k) nn n40 (by rw [List.length_take]; omega)
  have dd : dec ss ts cs k = match obs ss (ts.take (dep k cs ts)) (bare (ts.drop (dep k cs ts)) cs) k with
    | .tuple [.none, _] => .tuple [.str "reached", .int (dep k cs ts : Nat)]
    | .tuple [a, b] => .tuple [.str "blocked", .tuple [.int (dep k cs ts : Nat), if 0 < dep k cs ts then tS (bare (ts.drop (dep k cs ts)) cs) else .tuple [], a, b]]
    | d => d := rfl
  have wg : Gd 1 360 (if 0 < dep k cs ts then tS (bare (ts.drop (dep k cs ts)) cs) else .tuple []) := by
    split
    · exact tS_gd nn n40
    · exact tS_gd (ws := []) (fun _ h => nomatch h) (Nat.zero_le _)
  rw [dd]
  rcases og with e | ⟨s, b, e, g1, g2⟩
  · rw [e]
    exact ⟨_, _, rfl, (gd2 (k := 2) (m := 1444) ((lit_gd (by simp)).mono (Nat.zero_le _) (by omega)) (int_gd (by omega))).mono (Nat.le_refl _) (by omega)⟩
  · rw [e]
    exact ⟨_, _, rfl, (gd2 (k := 2) (m := 1444) ((lit_gd (k := 0) (by simp)).mono (Nat.zero_le _) (by omega)) (gd4 (k := 1) (m := 360) (int_gd (by omega)) wg g1 g2)).mono (Nat.le_refl _) (by omega)⟩
theorem dep_congr {k : Nat} {cs cs' : List Str} (h : ∀ x, x ∈ cs ↔ x ∈ cs') : ∀ ws : List Str, dep k cs ws = dep k cs' ws
  | [] => rfl
  | w :: ws => by
    unfold dep
    rw [dep_congr h ws, show cnt ws cs = cnt ws cs' from congrArg List.length (bare_congr h)]
theorem dec_congr {ss ts cs cs' : List Str} {k : Nat} (h : ∀ x, x ∈ cs ↔ x ∈ cs') : dec ss ts cs k = dec ss ts cs' k := by
  unfold dec
  rw [dep_congr h, bare_congr h]
theorem bare_none {ws cs : List Str} (h : ∀ x ∈ ws, x ∈ cs) : bare ws cs = [] := by
  rw [List.eq_nil_iff_forall_not_mem]
  intro x hx
  obtain ⟨h1, h2⟩ := mem_bare.mp hx
  exact h2 (h x h1)
theorem dec_self {ss ts : List Str} {k : Nat} : dec ss ts ts k = .tuple [.str "reached", .int 0] := by
  have d0 : dep k ts ts = 0 := dep_at ts 0 (by
    unfold cnt
    rw [bare_none fun x hx => List.mem_of_mem_drop hx]
    exact Nat.zero_le _) (.inl rfl)
  unfold dec
  rw [d0, List.drop_zero, bare_none fun x hx => hx, List.take_zero]
  have o : obs ss [] [] k = .tuple [.none, .none] := by
    unfold obs
    have : ¬cp ss [] < [].length (α := Str) := by simp
    rw [if_neg this]
    rfl
  rw [o]
  rfl
theorem reaches_run (ss ts cs : List Str) (K : Int) (k : Nat) (ek : K = k) (hs : ss.length ≤ 1000) (ht : ts.length ≤ 40) (hc : cs.length ≤ 1000) (hk : 1 ≤ k) (ot : Ok ts) :
    Sp (f_reaches_with_kw_constants_reach.run [tS ss, tS ts, tS cs, .int K]) (fun fr d o => fr = false ∧ d = .bool (rch (dec ss ts cs k)) ∧ o = []) (fun _ _ => False) := by
  refine sp_run (n := 4) (md := [false, false, false, false]) (b := ir_reaches_with) (tb := _) (ds := [tS ss, tS ts, tS cs, .int K]) rfl ?_
  delta ir_reaches_with
  wtm_at "go"
  refine Wp.calle (Sp.eq (with_run ss ts cs K k ek hs (by omega) hc hk)) ?_
  obtain ⟨s, b, e, g⟩ := dec_form (ss := ss) (cs := cs) (k := k) ot ht
  rw [e]
  wtm_at "go"
  rw [eqv_ss]
  rfl
theorem mem_rv {cs : List Str} (x : Str) : x ∈ (cs ++ cs).reverse ↔ x ∈ cs := by simp
theorem right_run (ss ts cs : List Str) (K : Int) (k : Nat) (ek : K = k) (hs : ss.length ≤ 40) (ht : ts.length ≤ 40) (hc : cs.length ≤ 100) (hk : 1 ≤ k) (os : Ok ss) (ot : Ok ts) :
    f_law_right.run [tS ss, tS ts, tS cs, .int K] = .ok false (.bool true) [] := by
  refine Sp.eq (sp_run (n := 6) (md := [false, false, false, false]) (b := ir_law_right) (tb := _) (ds := [tS ss, tS ts, tS cs, .int K]) rfl ?_)
  delta ir_law_right
  have dr := decided_run ss ts cs K k ek hs ht hk (fun z hz => ((pool_gd (k := 0) (os z hz)).shaped (by omega))) (fun z hz => ((pool_gd (k := 0) (ot z hz)).shaped (by omega)))
  have wr := with_run ss ts cs K k ek (by omega) (by omega) (by omega) hk
  have wr2 := with_run ss ts (cs ++ cs).reverse K k ek (by omega) (by omega) (by rw [List.length_reverse, List.length_append]; omega) hk
  have rr := reaches_run ss ts cs K k ek (by omega) ht (by omega) hk ot
  rw [← dec_congr (fun x => (mem_rv x).symm)] at wr2
  obtain ⟨s, b, e, g⟩ := dec_form (ss := ss) (cs := cs) (k := k) ot ht
  rw [e] at dr wr wr2 rr g
  have rp := g.rp (by omega) (by omega)
  have sp := g.shaped (by omega)
  have e2 : tS (cs ++ cs).reverse = .tuple (cs.map PyData.str ++ cs.map PyData.str).reverse := by unfold tS; simp
  rw [e2] at wr2
  unfold tS at *
  wtm_at "go"
  refine Wp.calle (Sp.eq dr) ?_
  wtm_at "go"
  refine Wp.calle (Sp.eq wr) ?_
  wtm_at "go"
  refine Wp.calle (Sp.eq wr2) ?_
  wtm_at "go"
  refine Wp.chkd (cmp_of sp sp) ?_
  rw [SeqAt.eqv_refl _ g.lay]
  wtm_at "go"
  refine Wp.calle (Sp.eq rr) ?_
  wtm_at "go"
  rw [eqv_ss, show rch (.tuple [.str s, b]) = decide (s = Str.ofString "reached") from rfl]
  refine Wp.chkd (cmp_of rfl rfl) ?_
  rw [SeqAt.eqv_refl _ rfl]
  wtm_at "go"
end K88
end
section
open PySem Di
local macro_rules | `(tactic| wtm_at "st") => `(tactic| simp -dsimp only [↓w_c, ↓w_v, ↓w_gc, ↓w_kdx, ↓w_bop, ↓w_rep, ↓w_neg, ↓w_cmp, ↓w_chn, ↓w_isn, ↓w_and, ↓w_or, ↓w_not, ↓w_ite, ↓w_tup, ↓w_lst, ↓w_dic0, ↓w_call, ↓w_blt, ↓w_rng, ↓w_isi, ↓w_ix, ↓w_sl, ↓w_rev, revD, ↓w_lc, ↓w_app, ↓w_ext, ↓w_pop, ↓w_cap_d, ↓w_cap_f, ↓w_cap_o, capS, ↓w_snil, ↓w_scons, ↓w_sstar, ↓w_vnil, ↓w_vcons, ↓w_mnil, ↓w_mf, ↓w_mt, ↓w_ono, ↓w_oe, ↓w_cno, ↓w_ce, ↓w_ie, ↓w_i1, ↓w_i2, ↓w_izip, ↓w_iez, ↓w_irvr, ↓w_srt, ↓w_srd, ↓w_lns, ↓w_popi, ↓w_jn, ↓w_sfi, ↓w_ins, ↓w_ebad, ↓w_sbad, ↓w_ien, txV, lstD, ↓w_dst, ownK, kOf, ezD, zipD, ↓w_asgn, ↓w_asgt, ↓w_set2, ↓w_aug, ↓w_six, ↓w_swp, ↓w_par, ↓w_exp, ↓w_ret, ↓w_retn, ↓w_ife, ↓w_for, ↓w_whl, ↓w_brk, ↓w_cnt, ↓w_pas, ↓w_nil, ↓w_cons, ↓nxt_nx, ↓nxt_rt, ↓nxt_bk, ↓nxt_ct, ↓w_asgV_d, ↓w_asgV_f, ↓w_asgV_o, ↓w_tst, ↓wp_ok, wp_ok, wp_ex, ↓wp_some, wp_some, ↓wp_chkt, wp_chkt, wp_selt, wp_self, ↓wp_bind, lift_if, lift_map, vV_sh, vV_ow, vV_rf, isB, isnD, fL, seqD, oI, shI, tup2, ↓slot_z, ↓slot_s, res, Sl.data, Sl.own, ↓copD_eq, ↓copD_ne, cmpS, cmpI, cmp_l00, cmp_t00, copD, bopD, ixD, slD, opI, at0, at1, at2, at3, at4, set3_0, set3_1, set3_2, truD, truOk, mkV, asgT, asgL, ↓setN_s, setN_zu, setN_zs, setN_zo, ↓setO_z, ↓setO_s, ownL, ↓chg_s, chg_zo, chg_zr, retV, outsE, mapM0, ↓mapM1, ↓mapM2, ↓mapM3, bltD, isiD, Es.len, Ar.slots, nodup, datas, Ar.data, puts, itD, ↓wipe1s, ↓wipe2s, wipe0, shn_sn, shn_sh, shn_un, keepE_nr, keepE_sn, setN_nr, setN_sn, Tg.slots, keepE_nil, keepE_sh, keepE_un, keepE_ow, keepE_rf, augD, initE, rgI, List.set_cons_zero, List.set_cons_succ, List.replicate_succ, List.replicate_zero, ln0, ln1, ln2, ln3, ln4, ln5, ln6, ln7, ln8, ln9, ln10, ln11, ln12, ln13, ln14, ln15, ln16, Option.map, Bool.false_or, Bool.or_false, Bool.true_or, Bool.or_true, Bool.false_and, Bool.true_and, Bool.and_false, Bool.and_true, true_or, or_true, decide_true, decide_false, Bool.false_eq_true, and_self, and_true, true_and, Bool.not_true, Bool.not_false, Bool.and_self, Bool.not_not, List.getElem?_cons_zero, List.getElem?_cons_succ, List.take_succ_cons, List.take_zero, List.drop_succ_cons, List.drop_zero, List.nil_append, List.append_nil, List.cons_append, List.contains_nil, filter_ff, eqv_tnil', isE_nil, isE_cons, eqvI, eqvS, eqv_nil, List.map_cons, List.map_nil, es_pp, es_pd, es_ps, es_dp, es_dd, es_ds, es_sp, es_sd, es_ss, ite_tt, ite_ff, ↓reduceIte, Prod.fst, Prod.snd, K11.md_law_pen, K88.md_law_draw, K88.md_law_values, K88.md_law_stack, K88.md_law_target, K88.md_law_constants, K88.md_law_reach, K88.md_depth_beside, K88.md_common_prefix, K88.md_obstacle, K88.md_decide_beside, K88.md_decide_with_kw_constants_reach, K88.md_reaches_with_kw_constants_reach, K88.md_law_bare, K88.md_law_decided, K88.md_law_right, K88.md_law, eqv_scr_nil, cmp_nil, wipe3s])
local macro_rules | `(tactic| wtm_at "ck") => `(tactic| with_reducible refine Wp.chkd (by first | assumption | omega | (have hsl := slE; (try simp only [List.length_cons, List.length_nil, List.length_append, List.length_map, List.length_replicate, List.length_dropLast, List.length_set, List.length_take, List.length_drop, List.length_reverse]); omega)) ?_)
local macro_rules | `(tactic| wtm_at "pk") => `(tactic| with_reducible refine Wp.draw (K88.draw_run _ _ _ _ (by omega) (by omega) (by omega) (by omega) (by omega)) ?_)
local macro_rules | `(tactic| wtm_at "rg") => `(tactic| with_reducible refine Wp.lift (rg62_ok (by omega)) ?_)
local macro_rules | `(tactic| wtm_at "al") => `(tactic| ((repeat (refine all_cons ⟨_, rfl, by omega, by omega⟩ ?_)); exact all_nil))
local macro_rules | `(tactic| wtm_at "go") => `(tactic| repeat (first | wtm_at "ck" | wtm_at "st"))
local macro_rules | `(tactic| wtm_at "sl") => `(tactic| (with_reducible apply Wp.sel) <;> intro hsel)
local macro_rules | `(tactic| wtm_at "br") => `(tactic| repeat' (first | wtm_at "ck" | (with_reducible refine Wp.selT (by assumption) ?_) | (with_reducible refine Wp.selF (by assumption) ?_) | wtm_at "sl" | wtm_at "st"))
local macro_rules | `(tactic| wtm_at "bd") => `(tactic| repeat' (first | wtm_at "ck" | (with_reducible refine Wp.selp (by omega) ?_) | (with_reducible refine Wp.seln (by omega) ?_) | ((with_reducible apply Wp.seld) <;> intro hsel) | wtm_at "st"))
namespace K88
open PySem Di Wd
theorem rgD_cons {k n : Int} (h : k < n) : rgD k n = .int k :: rgD (k + 1) n := by
  unfold rgD
  obtain ⟨m, e⟩ : ∃ m, (n - k).toNat = m + 1 := ⟨(n - k).toNat - 1, by omega⟩
  rw [e, show (n - (k + 1)).toNat = m by omega, List.range_succ_eq_map, List.map_cons, List.map_map]
  congr 1
  · simp
  · apply List.map_congr_left
    intro i _
    simp only [Function.comp]
    congr 1
    omega
theorem rgD_nil {k n : Int} (h : n ≤ k) : rgD k n = [] := by
  unfold rgD
  rw [show (n - k).toNat = 0 by omega]
  rfl
theorem rgD_inv {k n : Int} {x : PyData} {xs : List PyData} (h : x :: xs = rgD k n) : x = .int k ∧ xs = rgD (k + 1) n ∧ k < n := by
  by_cases c : k < n
  · rw [rgD_cons c] at h
    exact ⟨(List.cons.inj h).1, (List.cons.inj h).2, c⟩
  · rw [rgD_nil (by omega)] at h
    cases h
theorem rgD_inv0 {k n : Int} (h : [] = rgD k n) : n ≤ k := by
  by_cases c : k < n
  · rw [rgD_cons c] at h; cases h
  · omega
theorem rgD_len {n : Int} : (rgD 0 n).length = n.toNat := by unfold rgD; simp
def PW (x : PyData) : Prop := ∃ w, Gw w ∧ x = .str w
theorem words_of : ∀ {xs : List PyData}, (∀ x ∈ xs, PW x) → ∃ ws, xs = ws.map .str ∧ Ok ws
  | [], _ => ⟨[], rfl, fun _ h => nomatch h⟩
  | x :: xs, h => by
    obtain ⟨w, hw, rfl⟩ := h x List.mem_cons_self
    obtain ⟨ws, rfl, g⟩ := words_of (fun y hy => h y (List.mem_cons_of_mem _ hy))
    exact ⟨w :: ws, rfl, fun v hv => by
      rcases List.mem_cons.mp hv with rfl | hv
      · exact hw
      · exact g v hv⟩
theorem pw_map {ws : List Str} (h : Ok ws) : ∀ x ∈ ws.map PyData.str, PW x := fun x hx => by
  obtain ⟨w, hw, rfl⟩ := List.mem_map.mp hx
  exact ⟨w, h w hw, rfl⟩
theorem pw_app {xs ys : List PyData} (h : ∀ x ∈ xs, PW x) (g : ∀ x ∈ ys, PW x) : ∀ x ∈ xs ++ ys, PW x := fun x hx => by
  rcases List.mem_append.mp hx with hx | hx
  · exact h x hx
  · exact g x hx
theorem pw_one {x : PyData} (h : PW x) : ∀ y ∈ [x], PW y := fun y hy => by cases List.mem_singleton.mp hy; exact h
theorem pw_set {xs : List PyData} {i : Nat} {y : PyData} (h : ∀ x ∈ xs, PW x) (g : PW y) : ∀ x ∈ xs.set i y, PW x := fun x hx => by
  rcases List.mem_or_eq_of_mem_set hx with hx | rfl
  · exact h x hx
  · exact g
theorem popD_ok {v : Int} {n : Nat} (h0 : 0 ≤ v) (h1 : v < n) (h2 : n < 16777216) : popD (.int v) n = some v.toNat := if_pos ⟨h0, h1, h2⟩
theorem wp_getN {xs : List PyData} {n : Nat} {r : En} {Q : PyData → En → Prop} {X : Xn → En → Prop} (h : n < xs.length) (k : ∀ x ∈ xs, Q x r) : Wp (Di.lift xs[n]? r) Q X :=
  Wp.lift (List.getElem?_eq_getElem h) (k _ (List.getElem_mem h))
theorem pool_pw : ∀ x ∈ (pool.take 12).map PyData.str, PW x := pw_map fun w hw => pool_gw (List.mem_of_mem_take hw)
theorem values_run (L : List Int) (a g : Int) (h0 : 0 ≤ a) (ha : a ≤ 800000) (hg : 0 ≤ g) :
    Sp (f_law_values.run [pen L a g, .int 10]) (fun fr d o => ∃ (ws : List Str) (a' g' : Int), fr = true ∧ d = .list (ws.map .str) ∧ o = [pen L a' g'] ∧ 1 ≤ ws.length ∧ ws.length ≤ 10 ∧ Ok ws ∧ a ≤ a' ∧ a' ≤ a + 11 ∧ 0 ≤ g') (fun _ _ => False) := by
  refine sp_run (n := 4) (md := [true, false]) (b := ir_law_values) (tb := _) (ds := [pen L a g, .int 10]) rfl ?_
  delta ir_law_values
  wtm_at "go"
  wtm_at "pk"
  intro v a1 g1 p1 q1 l1 u1 z1
  wtm_at "go"
  wtm_at "rg"
  wtm_at "go"
  refine Wp.lc (fun rest ac r => ∃ (a2 g2 : Int) (ls : List PyData), r = [.rf (pen L a2 g2), .sh (.int 10), .ow (.list ls), .un] ∧ ls.length + ac.length = 12 ∧ ac.length + rest.length = (1 + v).toNat ∧ (∀ x ∈ ls, PW x) ∧ (∀ x ∈ ac, PW x) ∧ a ≤ a2 ∧ a2 ≤ a + 1 + ac.length ∧ 0 ≤ g2) ?step ?done ⟨a1, g1, (pool.take 12).map .str, rfl, rfl, by simp [rgD_len], pool_pw, by simp, by omega, by simp; omega, z1⟩
  case step =>
    rintro x xs ac r ⟨a2, g2, ls, rfl, hl, hr, hp, hq, b1, b2, b3⟩
    simp only [List.length_cons] at hr
    wtm_at "go"
    wtm_at "pk"
    intro t a3 g3 p3 q3 l3 u3 z3
    wtm_at "go"
    refine Wp.lift (popD_ok (by omega) (by omega) (by omega)) ?_
    wtm_at "go"
    refine wp_getN (by omega) fun y hy => ?_
    wtm_at "go"
    refine ⟨a3, g3, _, rfl, by rw [List.length_eraseIdx_of_lt (by omega)]; simp; omega, by simp; omega, fun x hx => hp x (List.mem_of_mem_eraseIdx hx), pw_app hq (pw_one (hp y hy)), by omega, by simp; omega, z3⟩
  case done =>
    rintro ac r ⟨a2, g2, ls, rfl, hl, hr, hp, hq, b1, b2, b3⟩
    simp only [List.length_nil] at hr
    wtm_at "go"
    obtain ⟨ws, rfl, hw⟩ := words_of hq
    rw [List.length_map] at *
    exact ⟨ws, a2, g2, rfl, rfl, by omega, by omega, hw, by omega, by omega, b3⟩
theorem reach_run (L : List Int) (a g : Int) (h0 : 0 ≤ a) (ha : a ≤ 800000) (hg : 0 ≤ g) :
    Sp (f_law_reach.run [pen L a g]) (fun fr d o => ∃ (v a' g' : Int), fr = false ∧ d = .int v ∧ o = [pen L a' g'] ∧ 2 ≤ v ∧ v ≤ 40 ∧ a ≤ a' ∧ a' ≤ a + 2 ∧ 0 ≤ g') (fun _ _ => False) := by
  refine sp_run (n := 1) (md := [true]) (b := ir_law_reach) (tb := _) (ds := [pen L a g]) rfl ?_
  delta ir_law_reach
  wtm_at "go"
  wtm_at "pk"
  intro v a1 g1 p1 q1 l1 u1 z1
  wtm_at "go"
  wtm_at "pk"
  intro w a2 g2 p2 q2 l2 u2 z2
  wtm_at "go"
  refine Wp.atI 2 40 (by wtm_at "al") (by omega) (by simp; omega) fun x li1 li2 => ?_
  wtm_at "go"
  exact ⟨x, a2, g2, rfl, rfl, li1, li2, by omega, by omega, z2⟩
theorem constants_run (L : List Int) (vs : List Str) (a g : Int) (h0 : 0 ≤ a) (ha : a ≤ 800000) (hg : 0 ≤ g) (hv : Ok vs) (lv : 1 ≤ vs.length) (lv2 : vs.length ≤ 10) :
    Sp (f_law_constants.run [pen L a g, .list (vs.map .str)]) (fun fr d o => ∃ (ws : List Str) (a' g' : Int), fr = false ∧ d = tS ws ∧ o = [pen L a' g'] ∧ ws.length ≤ 8 ∧ Ok ws ∧ a ≤ a' ∧ a' ≤ a + 26 ∧ 0 ≤ g') (fun _ _ => False) := by
  refine sp_run (n := 4) (md := [true, false]) (b := ir_law_constants) (tb := _) (ds := [pen L a g, .list (vs.map .str)]) rfl ?_
  delta ir_law_constants
  have vl : (vs.map PyData.str).length = vs.length := by simp
  have vp := pw_map hv
  generalize vs.map PyData.str = xs at vl vp
  wtm_at "go"
  wtm_at "pk"
  intro v a1 g1 p1 q1 l1 u1 z1
  wtm_at "go"
  wtm_at "pk"
  intro w a2 g2 p2 q2 l2 u2 z2
  wtm_at "go"
  refine Wp.atI 0 8 (by wtm_at "al") (by omega) (by simp; omega) fun many li1 li2 => ?_
  wtm_at "go"
  wtm_at "rg"
  wtm_at "go"
  refine Wp.for (fun rest r => ∃ (a' g' : Int) (ac : List PyData) (s3 : Sn), r = [.rf (pen L a' g'), .sh (.list xs), .ow (.list ac), sn s3] ∧ ac.length + rest.length = many.toNat ∧ (∀ x ∈ ac, PW x) ∧ a ≤ a' ∧ a' ≤ a + 2 + 3 * ac.length ∧ 0 ≤ g') ?step ?done ⟨a2, g2, [], .un, rfl, by simp [rgD_len], by simp, by omega, by simp; omega, z2⟩
  case step =>
    rintro x rest r ⟨a', g', ac, s3, rfl, hr, hp, b1, b2, b3⟩
    simp only [List.length_cons] at hr
    wtm_at "go"
    wtm_at "pk"
    intro v3 a3 g3 p3 q3 l3 u3 z3
    wtm_at "go"
    refine Wp.at (by omega) (by omega) fun y hy => ?_
    wtm_at "go"
    wtm_at "pk"
    intro v4 a4 g4 p4 q4 l4 u4 z4
    wtm_at "go"
    refine Wp.atP PW (fun x hx => ?_) (by omega) (by simp; omega) fun z hz => ?_
    · have e : x ∈ [Str.ofString "kk", Str.ofString "a", Str.ofString "mm"].map PyData.str := hx
      exact pw_map (fun w hw => by simp at hw; rcases hw with rfl | rfl | rfl <;> exact pool_gw (by simp [pool])) x e
    wtm_at "go"
    wtm_at "pk"
    intro v5 a5 g5 p5 q5 l5 u5 z5
    wtm_at "go"
    refine Wp.atP PW (all_cons (vp y hy) (all_cons hz all_nil)) (by omega) (by simp; omega) fun u hu => ?_
    wtm_at "go"
    exact ⟨a5, g5, ac ++ [u], .sh _, rfl, by simp; omega, pw_app hp (pw_one hu), by omega, by simp; omega, z5⟩
  case done =>
    rintro r ⟨a', g', ac, s3, rfl, hr, hp, b1, b2, b3⟩
    simp only [List.length_nil] at hr
    wtm_at "go"
    obtain ⟨ws, rfl, hw⟩ := words_of hp
    rw [List.length_map] at *
    exact ⟨ws, a', g', rfl, rfl, by omega, hw, by omega, by omega, b3⟩
end K88
end
section
open PySem Di
local macro_rules | `(tactic| wtm_at "st") => `(tactic| simp -dsimp only [↓w_c, ↓w_v, ↓w_gc, ↓w_kdx, ↓w_bop, ↓w_rep, ↓w_neg, ↓w_cmp, ↓w_chn, ↓w_isn, ↓w_and, ↓w_or, ↓w_not, ↓w_ite, ↓w_tup, ↓w_lst, ↓w_dic0, ↓w_call, ↓w_blt, ↓w_rng, ↓w_isi, ↓w_ix, ↓w_sl, ↓w_rev, revD, ↓w_lc, ↓w_app, ↓w_ext, ↓w_pop, ↓w_cap_d, ↓w_cap_f, ↓w_cap_o, capS, ↓w_snil, ↓w_scons, ↓w_sstar, ↓w_vnil, ↓w_vcons, ↓w_mnil, ↓w_mf, ↓w_mt, ↓w_ono, ↓w_oe, ↓w_cno, ↓w_ce, ↓w_ie, ↓w_i1, ↓w_i2, ↓w_izip, ↓w_iez, ↓w_irvr, ↓w_srt, ↓w_srd, ↓w_lns, ↓w_popi, ↓w_jn, ↓w_sfi, ↓w_ins, ↓w_ebad, ↓w_sbad, ↓w_ien, txV, lstD, ↓w_dst, ownK, kOf, ezD, zipD, ↓w_asgn, ↓w_asgt, ↓w_set2, ↓w_aug, ↓w_six, ↓w_swp, ↓w_par, ↓w_exp, ↓w_ret, ↓w_retn, ↓w_ife, ↓w_for, ↓w_whl, ↓w_brk, ↓w_cnt, ↓w_pas, ↓w_nil, ↓w_cons, ↓nxt_nx, ↓nxt_rt, ↓nxt_bk, ↓nxt_ct, ↓w_asgV_d, ↓w_asgV_f, ↓w_asgV_o, ↓w_tst, ↓wp_ok, wp_ok, wp_ex, ↓wp_some, wp_some, ↓wp_chkt, wp_chkt, wp_selt, wp_self, ↓wp_bind, lift_if, lift_map, vV_sh, vV_ow, vV_rf, isB, isnD, fL, seqD, oI, shI, tup2, ↓slot_z, ↓slot_s, res, Sl.data, Sl.own, ↓copD_eq, ↓copD_ne, cmpS, cmpI, cmp_l00, cmp_t00, copD, bopD, ixD, slD, opI, at0, at1, at2, at3, at4, set3_0, set3_1, set3_2, truD, truOk, mkV, asgT, asgL, ↓setN_s, setN_zu, setN_zs, setN_zo, ↓setO_z, ↓setO_s, ownL, ↓chg_s, chg_zo, chg_zr, retV, outsE, mapM0, ↓mapM1, ↓mapM2, ↓mapM3, bltD, isiD, Es.len, Ar.slots, nodup, datas, Ar.data, puts, itD, ↓wipe1s, ↓wipe2s, wipe0, shn_sn, shn_sh, shn_un, keepE_nr, keepE_sn, setN_nr, setN_sn, Tg.slots, keepE_nil, keepE_sh, keepE_un, keepE_ow, keepE_rf, augD, initE, rgI, List.set_cons_zero, List.set_cons_succ, List.replicate_succ, List.replicate_zero, ln0, ln1, ln2, ln3, ln4, ln5, ln6, ln7, ln8, ln9, ln10, ln11, ln12, ln13, ln14, ln15, ln16, Option.map, Bool.false_or, Bool.or_false, Bool.true_or, Bool.or_true, Bool.false_and, Bool.true_and, Bool.and_false, Bool.and_true, true_or, or_true, decide_true, decide_false, Bool.false_eq_true, and_self, and_true, true_and, Bool.not_true, Bool.not_false, Bool.and_self, Bool.not_not, List.getElem?_cons_zero, List.getElem?_cons_succ, List.take_succ_cons, List.take_zero, List.drop_succ_cons, List.drop_zero, List.nil_append, List.append_nil, List.cons_append, List.contains_nil, filter_ff, eqv_tnil', isE_nil, isE_cons, eqvI, eqvS, eqv_nil, List.map_cons, List.map_nil, es_pp, es_pd, es_ps, es_dp, es_dd, es_ds, es_sp, es_sd, es_ss, ite_tt, ite_ff, ↓reduceIte, Prod.fst, Prod.snd, K11.md_law_pen, K88.md_law_draw, K88.md_law_values, K88.md_law_stack, K88.md_law_target, K88.md_law_constants, K88.md_law_reach, K88.md_depth_beside, K88.md_common_prefix, K88.md_obstacle, K88.md_decide_beside, K88.md_decide_with_kw_constants_reach, K88.md_reaches_with_kw_constants_reach, K88.md_law_bare, K88.md_law_decided, K88.md_law_right, K88.md_law, eqv_scr_nil, cmp_nil, wipe3s])
local macro_rules | `(tactic| wtm_at "ck") => `(tactic| with_reducible refine Wp.chkd (by first | assumption | omega | (have hsl := slE; (try simp only [List.length_cons, List.length_nil, List.length_append, List.length_map, List.length_replicate, List.length_dropLast, List.length_set, List.length_take, List.length_drop, List.length_reverse]); omega)) ?_)
local macro_rules | `(tactic| wtm_at "pk") => `(tactic| with_reducible refine Wp.draw (K88.draw_run _ _ _ _ (by omega) (by omega) (by omega) (by omega) (by omega)) ?_)
local macro_rules | `(tactic| wtm_at "rg") => `(tactic| with_reducible refine Wp.lift (rg62_ok (by omega)) ?_)
local macro_rules | `(tactic| wtm_at "al") => `(tactic| ((repeat (refine all_cons ⟨_, rfl, by omega, by omega⟩ ?_)); exact all_nil))
local macro_rules | `(tactic| wtm_at "go") => `(tactic| repeat (first | wtm_at "ck" | wtm_at "st"))
local macro_rules | `(tactic| wtm_at "sl") => `(tactic| (with_reducible apply Wp.sel) <;> intro hsel)
local macro_rules | `(tactic| wtm_at "br") => `(tactic| repeat' (first | wtm_at "ck" | (with_reducible refine Wp.selT (by assumption) ?_) | (with_reducible refine Wp.selF (by assumption) ?_) | wtm_at "sl" | wtm_at "st"))
local macro_rules | `(tactic| wtm_at "bd") => `(tactic| repeat' (first | wtm_at "ck" | (with_reducible refine Wp.selp (by omega) ?_) | (with_reducible refine Wp.seln (by omega) ?_) | ((with_reducible apply Wp.seld) <;> intro hsel) | wtm_at "st"))
namespace K88
open PySem Di Wd
theorem setC_ok {xs : List PyData} {i : Int} {d : PyData} (h0 : 0 ≤ i) (h1 : i < xs.length) : setC (.list xs) (.int i) d = some (.list (xs.set i.toNat d)) := by
  have e : L2.ixN xs.length i = some i.toNat := by
    rw [L2.ixN, if_pos h0, if_pos h1]
  show (L2.ixN xs.length i).map _ = _
  rw [e]
  rfl
theorem stack_run (L : List Int) (vs : List Str) (a g : Int) (h0 : 0 ≤ a) (ha : a ≤ 800000) (hg : 0 ≤ g) (hv : Ok vs) (lv : 1 ≤ vs.length) (lv2 : vs.length ≤ 10) :
    Sp (f_law_stack.run [pen L a g, .list (vs.map .str), .int 30]) (fun fr d o => ∃ (ws : List Str) (a' g' : Int), fr = false ∧ d = tS ws ∧ o = [pen L a' g'] ∧ ws.length ≤ 30 ∧ Ok ws ∧ a ≤ a' ∧ a' ≤ a + 70 ∧ 0 ≤ g') (fun _ _ => False) := by
  refine sp_run (n := 7) (md := [true, false, false]) (b := ir_law_stack) (tb := _) (ds := [pen L a g, .list (vs.map .str), .int 30]) rfl ?_
  delta ir_law_stack
  have vl : (vs.map PyData.str).length = vs.length := by simp
  have vp := pw_map hv
  generalize vs.map PyData.str = xs at vl vp
  wtm_at "go"
  wtm_at "pk"
  intro v1 a1 g1 p1 q1 l1 u1 z1
  wtm_at "go"
  wtm_at "pk"
  intro v2 a2 g2 p2 q2 l2 u2 z2
  wtm_at "go"
  wtm_at "pk"
  intro v3 a3 g3 p3 q3 l3 u3 z3
  wtm_at "go"
  refine Wp.atI 0 30 (by wtm_at "al") (by omega) (by simp; omega) fun many li1 li2 => ?_
  wtm_at "go"
  wtm_at "pk"
  intro way a4 g4 p4 q4 l4 u4 z4
  wtm_at "go"
  wtm_at "rg"
  wtm_at "go"
  refine Wp.for (fun rest r => ∃ (a' g' : Int) (ac : List PyData) (s6 : Sn), r = [.rf (pen L a' g'), .sh (.list xs), .sh (.int 30), .sh (.int many), .sh (.int way), .ow (.list ac), sn s6] ∧ rest = rgD (ac.length : Int) many ∧ ac.length ≤ 30 ∧ (∀ x ∈ ac, PW x) ∧ a ≤ a' ∧ a' ≤ a + 4 + 2 * ac.length ∧ 0 ≤ g') ?step ?done ⟨a4, g4, [], .un, rfl, rfl, by simp, by simp, by omega, by simp; omega, z4⟩
  case step =>
    rintro x rest r ⟨a', g', ac, s3, rfl, hr, hl, hp, b1, b2, b3⟩
    obtain ⟨rfl, rfl, lt⟩ := rgD_inv hr
    have em := Int.emod_nonneg (ac.length : Int) (b := (xs.length : Int)) (by omega)
    have em2 := Int.emod_lt_of_pos (ac.length : Int) (b := (xs.length : Int)) (by omega)
    wtm_at "go"
    wtm_at "pk"
    intro v5 a5 g5 p5 q5 l5 u5 z5
    wtm_at "go"
    refine Wp.at (by omega) (by omega) fun y hy => ?_
    wtm_at "go"
    refine Wp.at (by omega) (by omega) fun z hz => ?_
    wtm_at "go"
    refine Wp.atP PW (all_cons (vp y hy) (all_cons (vp z hz) all_nil)) (by split <;> omega) (by simp; split <;> omega) fun u hu => ?_
    have e1 : ((ac.length : Nat) : Int) + 1 = ((ac ++ [u]).length : Int) := by simp
    wtm_at "go"
    have fin : ∀ (b k : Int) (c1 : List PyData), c1.length = ac.length + 1 → (∀ x ∈ c1, PW x) → a5 ≤ b → b ≤ a5 + 1 → 0 ≤ k → ∃ (a' g' : Int) (ac_1 : List PyData) (s6 : Sn), ([.rf (pen L b k), .sh (.list xs), .sh (.int 30), .sh (.int many), .sh (.int way), .ow (.list c1), .sh (.int (ac.length : Int))] : En) = [.rf (pen L a' g'), .sh (.list xs), .sh (.int 30), .sh (.int many), .sh (.int way), .ow (.list ac_1), sn s6] ∧ rgD ((ac.length : Int) + 1) many = rgD (ac_1.length : Int) many ∧ ac_1.length ≤ 30 ∧ (∀ x ∈ ac_1, PW x) ∧ a ≤ a' ∧ a' ≤ a + 4 + 2 * ac_1.length ∧ 0 ≤ g' := fun b k c1 cl cp y1 y2 y3 => ⟨b, k, c1, .sh _, rfl, by rw [cl]; congr 1, by omega, cp, by omega, by omega, y3⟩
    have pn := pw_app hp (pw_one hu)
    have ln : (ac ++ [u]).length = ac.length + 1 := by simp
    refine Wp.sel (fun w1 => ?_) fun w1 => ?_
    · wtm_at "go"
      refine Wp.sel (fun w2 => ?_) fun w2 => ?_
      · have w2 := of_decide_eq_true w2
        wtm_at "go"
        wtm_at "pk"
        intro v6 a6 g6 p6 q6 l6 u6 z6
        wtm_at "go"
        refine Wp.sel (fun w3 => ?_) fun w3 => ?_
        · wtm_at "go"
          refine Wp.at (by omega) (by omega) fun y2 hy2 => ?_
          wtm_at "go"
          rw [setC_ok (by omega) (by omega)]
          wtm_at "go"
          exact fin a6 g6 _ (by rw [List.length_set]; exact ln) (pw_set pn (pn y2 hy2)) l6 u6 z6
        · wtm_at "go"
          exact fin a6 g6 _ ln pn l6 u6 z6
      · wtm_at "go"
        refine Wp.selF w2 ?_
        wtm_at "go"
        exact fin a5 g5 _ ln pn (by omega) (by omega) z5
    · wtm_at "go"
      refine Wp.selF w1 ?_
      wtm_at "go"
      exact fin a5 g5 _ ln pn (by omega) (by omega) z5
  case done =>
    rintro r ⟨a', g', ac, s3, rfl, hr, hl, hp, b1, b2, b3⟩
    have hr := rgD_inv0 hr
    wtm_at "go"
    obtain ⟨ws, rfl, hw⟩ := words_of hp
    rw [List.length_map] at *
    exact ⟨ws, a', g', rfl, rfl, by omega, hw, by omega, by omega, b3⟩
end K88
end
section
open PySem Di
local macro_rules | `(tactic| wtm_at "st") => `(tactic| simp -dsimp only [↓w_c, ↓w_v, ↓w_gc, ↓w_kdx, ↓w_bop, ↓w_rep, ↓w_neg, ↓w_cmp, ↓w_chn, ↓w_isn, ↓w_and, ↓w_or, ↓w_not, ↓w_ite, ↓w_tup, ↓w_lst, ↓w_dic0, ↓w_call, ↓w_blt, ↓w_rng, ↓w_isi, ↓w_ix, ↓w_sl, ↓w_rev, revD, ↓w_lc, ↓w_app, ↓w_ext, ↓w_pop, ↓w_cap_d, ↓w_cap_f, ↓w_cap_o, capS, ↓w_snil, ↓w_scons, ↓w_sstar, ↓w_vnil, ↓w_vcons, ↓w_mnil, ↓w_mf, ↓w_mt, ↓w_ono, ↓w_oe, ↓w_cno, ↓w_ce, ↓w_ie, ↓w_i1, ↓w_i2, ↓w_izip, ↓w_iez, ↓w_irvr, ↓w_srt, ↓w_srd, ↓w_lns, ↓w_popi, ↓w_jn, ↓w_sfi, ↓w_ins, ↓w_ebad, ↓w_sbad, ↓w_ien, txV, lstD, ↓w_dst, ownK, kOf, ezD, zipD, ↓w_asgn, ↓w_asgt, ↓w_set2, ↓w_aug, ↓w_six, ↓w_swp, ↓w_par, ↓w_exp, ↓w_ret, ↓w_retn, ↓w_ife, ↓w_for, ↓w_whl, ↓w_brk, ↓w_cnt, ↓w_pas, ↓w_nil, ↓w_cons, ↓nxt_nx, ↓nxt_rt, ↓nxt_bk, ↓nxt_ct, ↓w_asgV_d, ↓w_asgV_f, ↓w_asgV_o, ↓w_tst, ↓wp_ok, wp_ok, wp_ex, ↓wp_some, wp_some, ↓wp_chkt, wp_chkt, wp_selt, wp_self, ↓wp_bind, lift_if, lift_map, vV_sh, vV_ow, vV_rf, isB, isnD, fL, seqD, oI, shI, tup2, ↓slot_z, ↓slot_s, res, Sl.data, Sl.own, ↓copD_eq, ↓copD_ne, cmpS, cmpI, cmp_l00, cmp_t00, copD, bopD, ixD, slD, opI, at0, at1, at2, at3, at4, set3_0, set3_1, set3_2, truD, truOk, mkV, asgT, asgL, ↓setN_s, setN_zu, setN_zs, setN_zo, ↓setO_z, ↓setO_s, ownL, ↓chg_s, chg_zo, chg_zr, retV, outsE, mapM0, ↓mapM1, ↓mapM2, ↓mapM3, bltD, isiD, Es.len, Ar.slots, nodup, datas, Ar.data, puts, itD, ↓wipe1s, ↓wipe2s, wipe0, shn_sn, shn_sh, shn_un, keepE_nr, keepE_sn, setN_nr, setN_sn, Tg.slots, keepE_nil, keepE_sh, keepE_un, keepE_ow, keepE_rf, augD, initE, rgI, List.set_cons_zero, List.set_cons_succ, List.replicate_succ, List.replicate_zero, ln0, ln1, ln2, ln3, ln4, ln5, ln6, ln7, ln8, ln9, ln10, ln11, ln12, ln13, ln14, ln15, ln16, Option.map, Bool.false_or, Bool.or_false, Bool.true_or, Bool.or_true, Bool.false_and, Bool.true_and, Bool.and_false, Bool.and_true, true_or, or_true, decide_true, decide_false, Bool.false_eq_true, and_self, and_true, true_and, Bool.not_true, Bool.not_false, Bool.and_self, Bool.not_not, List.getElem?_cons_zero, List.getElem?_cons_succ, List.take_succ_cons, List.take_zero, List.drop_succ_cons, List.drop_zero, List.nil_append, List.append_nil, List.cons_append, List.contains_nil, filter_ff, eqv_tnil', isE_nil, isE_cons, eqvI, eqvS, eqv_nil, List.map_cons, List.map_nil, es_pp, es_pd, es_ps, es_dp, es_dd, es_ds, es_sp, es_sd, es_ss, ite_tt, ite_ff, ↓reduceIte, Prod.fst, Prod.snd, K11.md_law_pen, K88.md_law_draw, K88.md_law_values, K88.md_law_stack, K88.md_law_target, K88.md_law_constants, K88.md_law_reach, K88.md_depth_beside, K88.md_common_prefix, K88.md_obstacle, K88.md_decide_beside, K88.md_decide_with_kw_constants_reach, K88.md_reaches_with_kw_constants_reach, K88.md_law_bare, K88.md_law_decided, K88.md_law_right, K88.md_law, eqv_scr_nil, cmp_nil, wipe3s])
local macro_rules | `(tactic| wtm_at "ck") => `(tactic| with_reducible refine Wp.chkd (by first | assumption | omega | (have hsl := slE; (try simp only [List.length_cons, List.length_nil, List.length_append, List.length_map, List.length_replicate, List.length_dropLast, List.length_set, List.length_take, List.length_drop, List.length_reverse]); omega)) ?_)
local macro_rules | `(tactic| wtm_at "pk") => `(tactic| with_reducible refine Wp.draw (K88.draw_run _ _ _ _ (by omega) (by omega) (by omega) (by omega) (by omega)) ?_)
local macro_rules | `(tactic| wtm_at "rg") => `(tactic| with_reducible refine Wp.lift (rg62_ok (by omega)) ?_)
local macro_rules | `(tactic| wtm_at "al") => `(tactic| ((repeat (refine all_cons ⟨_, rfl, by omega, by omega⟩ ?_)); exact all_nil))
local macro_rules | `(tactic| wtm_at "go") => `(tactic| repeat (first | wtm_at "ck" | wtm_at "st"))
local macro_rules | `(tactic| wtm_at "sl") => `(tactic| (with_reducible apply Wp.sel) <;> intro hsel)
local macro_rules | `(tactic| wtm_at "br") => `(tactic| repeat' (first | wtm_at "ck" | (with_reducible refine Wp.selT (by assumption) ?_) | (with_reducible refine Wp.selF (by assumption) ?_) | wtm_at "sl" | wtm_at "st"))
local macro_rules | `(tactic| wtm_at "bd") => `(tactic| repeat' (first | wtm_at "ck" | (with_reducible refine Wp.selp (by omega) ?_) | (with_reducible refine Wp.seln (by omega) ?_) | ((with_reducible apply Wp.seld) <;> intro hsel) | wtm_at "st"))
namespace K88
open PySem Di Wd
theorem target_run (L : List Int) (ss vs : List Str) (a g : Int) (h0 : 0 ≤ a) (ha : a ≤ 700000) (hg : 0 ≤ g) (hv : Ok vs) (lv : 1 ≤ vs.length) (lv2 : vs.length ≤ 10) (hs : Ok ss) (ls : ss.length ≤ 30) :
    Sp (f_law_target.run [pen L a g, tS ss, .list (vs.map .str), .int 30]) (fun fr d o => ∃ (ws : List Str) (a' g' : Int), fr = false ∧ d = tS ws ∧ o = [pen L a' g'] ∧ ws.length ≤ 30 ∧ Ok ws ∧ a ≤ a' ∧ a' ≤ a + 80 ∧ 0 ≤ g') (fun _ _ => False) := by
  refine sp_run (n := 10) (md := [true, false, false, false]) (b := ir_law_target) (tb := _) (ds := [pen L a g, tS ss, .list (vs.map .str), .int 30]) rfl ?_
  delta ir_law_target
  have vl : (vs.map PyData.str).length = vs.length := by simp
  have sl2 : (ss.map PyData.str).length = ss.length := by simp
  unfold tS
  wtm_at "go"
  wtm_at "pk"
  intro way a1 g1 p1 q1 l1 u1 z1
  wtm_at "go"
  refine Wp.sel (fun w1 => ?_) fun w1 => ?_
  · wtm_at "go"
    refine Wp.call (stack_run L vs a1 g1 (by omega) (by omega) z1 hv lv lv2) (fun fr d o e => ?_) fun _ _ h => h.elim
    obtain ⟨ws, a2, g2, rfl, rfl, rfl, k1, k2, k3, k4, k5⟩ := e
    wtm_at "go"
    exact ⟨ws, a2, g2, rfl, rfl, k1, k2, by omega, by omega, k5⟩
  · wtm_at "go"
    rw [show (if (30 : Int) < ((ss.map PyData.str).length : Int) then (30 : Int) else ((ss.map PyData.str).length : Int)) = ((ss.map PyData.str).length : Int) from if_neg (by omega)]
    wtm_at "go"
    wtm_at "pk"
    intro floor a2 g2 p2 q2 l2 u2 z2
    obtain ⟨n, rfl⟩ := Int.eq_ofNat_of_zero_le p2
    wtm_at "go"
    rw [cut_from]
    wtm_at "go"
    refine Wp.sel (fun w2 => ?_) fun w2 => ?_
    · have dl : 1 ≤ (ss.drop n).length := by
        cases q : ss.drop n with
        | nil => rw [q] at w2; cases w2
        | cons _ _ => simp
      have dl2 : (ss.drop n).length ≤ 30 := by rw [List.length_drop]; omega
      wtm_at "go"
      refine Wp.sel (fun w3 => ?_) fun w3 => ?_
      · wtm_at "go"
        have zn : ((ss.drop n).map PyData.str).length = (ss.drop n).length := by simp
        wtm_at "pk"
        intro v3 a3 g3 p3 q3 l3 u3 z3
        obtain ⟨m, rfl⟩ := Int.eq_ofNat_of_zero_le p3
        wtm_at "go"
        rw [show (1 : Int) + (m : Int) = ((m + 1 : Nat) : Int) by omega, cut_to]
        wtm_at "go"
        wtm_at "pk"
        intro size a5 g5 p5 q5 l5 u5 z5
        wtm_at "go"
        rw [cut_to]
        wtm_at "go"
        wtm_at "rg"
        wtm_at "go"
        have zl : (((ss.drop n).take (m + 1)).map PyData.str).length = ((ss.drop n).take (m + 1)).length := by simp
        have zp := pw_map (ws := (ss.drop n).take (m + 1)) (fun w hw => (fun w hw => hs w (List.mem_of_mem_drop hw)) w (List.mem_of_mem_take hw))
        have zz : 1 ≤ ((ss.drop n).take (m + 1)).length := by rw [List.length_take]; omega
        have zz2 : ((ss.drop n).take (m + 1)).length ≤ 30 := by rw [List.length_take]; omega
        refine Wp.lc (fun rest ac r => ∃ (a2 g2 : Int), r = [.rf (pen L a2 g2), .sh (.tuple (ss.map .str)), .sh (.list (vs.map .str)), .sh (.int 30), .sh (.int way), .sh (.int (n : Int)), .ow (.list (((ss.drop n).take (m + 1)).map .str)), .sh (.int size), .un, .un] ∧ ac.length + rest.length = size.toNat ∧ (∀ x ∈ ac, PW x) ∧ a ≤ a2 ∧ a2 ≤ a + 4 + ac.length ∧ 0 ≤ g2) ?_ ?_ ⟨a5, g5, rfl, by simp [rgD_len], by simp, by omega, by simp; omega, z5⟩
        · rintro x xs ac r ⟨a2, g2, rfl, hr, hq, b1, b2, b3⟩
          simp only [List.length_cons] at hr
          wtm_at "go"
          wtm_at "pk"
          intro t a3 g3 p3 q3 l3 u3 z3
          wtm_at "go"
          refine Wp.at (by omega) (by omega) fun y hy => ?_
          wtm_at "go"
          exact ⟨a3, g3, rfl, by simp; omega, pw_app hq (pw_one (zp y hy)), by omega, by simp; omega, z3⟩
        · rintro ac r ⟨a2, g2, rfl, hr, hq, b1, b2, b3⟩
          simp only [List.length_nil] at hr
          wtm_at "go"
          have tp := pw_app (pw_map (show Ok (ss.take n) from fun w hw => hs w (List.mem_of_mem_take hw))) hq
          have tl : ((ss.take n).map PyData.str ++ ac).length ≤ 30 := by rw [List.length_append, List.length_map, List.length_take]; omega
          generalize (ss.take n).map PyData.str ++ ac = fs at tp tl
          have fin : ∀ (b k : Int) (c1 : List PyData), c1.length ≤ 30 → (∀ x ∈ c1, PW x) → a2 ≤ b → b ≤ a2 + 2 → 0 ≤ k → ∃ (ws : List Str) (a' g' : Int), PyData.tuple c1 = .tuple (ws.map .str) ∧ ([pen L b k] : List PyData) = [pen L a' g'] ∧ ws.length ≤ 30 ∧ Ok ws ∧ a ≤ a' ∧ a' ≤ a + 80 ∧ 0 ≤ g' := fun b k c1 cl cp y1 y2 y3 => by
            obtain ⟨ws, rfl, hw⟩ := words_of cp
            rw [List.length_map] at cl
            exact ⟨ws, b, k, rfl, rfl, cl, hw, by omega, by omega, y3⟩
          refine Wp.sel (fun w4 => ?_) fun w4 => ?_
          · wtm_at "go"
            refine Wp.sel (fun w5 => ?_) fun w5 => ?_
            · have fl : 1 ≤ fs.length := by
                cases fs with
                | nil => cases w5
                | cons f fs => simp
              wtm_at "go"
              wtm_at "pk"
              intro v6 a6 g6 p6 q6 l6 u6 z6
              wtm_at "go"
              refine Wp.at (by omega) (by omega) fun y hy => ?_
              wtm_at "go"
              wtm_at "pk"
              intro v7 a7 g7 p7 q7 l7 u7 z7
              wtm_at "go"
              rw [setC_ok (by omega) (by omega)]
              wtm_at "go"
              exact fin a7 g7 _ (by rw [List.length_set]; exact tl) (pw_set tp (pw_map hv y hy)) (by omega) (by omega) z7
            · wtm_at "go"
              exact fin a2 g2 _ tl tp (by omega) (by omega) b3
          · wtm_at "go"
            refine Wp.selF w4 ?_
            wtm_at "go"
            exact fin a2 g2 _ tl tp (by omega) (by omega) b3
      · skip
        wtm_at "go"
        wtm_at "pk"
        intro size a5 g5 p5 q5 l5 u5 z5
        wtm_at "go"
        rw [cut_to]
        wtm_at "go"
        wtm_at "rg"
        wtm_at "go"
        have zl : ((ss.drop n).map PyData.str).length = (ss.drop n).length := by simp
        have zp := pw_map (ws := ss.drop n) (fun w hw => hs w (List.mem_of_mem_drop hw))
        have zz : 1 ≤ (ss.drop n).length := by omega
        have zz2 : (ss.drop n).length ≤ 30 := by omega
        refine Wp.lc (fun rest ac r => ∃ (a2 g2 : Int), r = [.rf (pen L a2 g2), .sh (.tuple (ss.map .str)), .sh (.list (vs.map .str)), .sh (.int 30), .sh (.int way), .sh (.int (n : Int)), .ow (.list ((ss.drop n).map .str)), .sh (.int size), .un, .un] ∧ ac.length + rest.length = size.toNat ∧ (∀ x ∈ ac, PW x) ∧ a ≤ a2 ∧ a2 ≤ a + 4 + ac.length ∧ 0 ≤ g2) ?_ ?_ ⟨a5, g5, rfl, by simp [rgD_len], by simp, by omega, by simp; omega, z5⟩
        · rintro x xs ac r ⟨a2, g2, rfl, hr, hq, b1, b2, b3⟩
          simp only [List.length_cons] at hr
          wtm_at "go"
          wtm_at "pk"
          intro t a3 g3 p3 q3 l3 u3 z3
          wtm_at "go"
          refine Wp.at (by omega) (by omega) fun y hy => ?_
          wtm_at "go"
          exact ⟨a3, g3, rfl, by simp; omega, pw_app hq (pw_one (zp y hy)), by omega, by simp; omega, z3⟩
        · rintro ac r ⟨a2, g2, rfl, hr, hq, b1, b2, b3⟩
          simp only [List.length_nil] at hr
          wtm_at "go"
          have tp := pw_app (pw_map (show Ok (ss.take n) from fun w hw => hs w (List.mem_of_mem_take hw))) hq
          have tl : ((ss.take n).map PyData.str ++ ac).length ≤ 30 := by rw [List.length_append, List.length_map, List.length_take]; omega
          generalize (ss.take n).map PyData.str ++ ac = fs at tp tl
          have fin : ∀ (b k : Int) (c1 : List PyData), c1.length ≤ 30 → (∀ x ∈ c1, PW x) → a2 ≤ b → b ≤ a2 + 2 → 0 ≤ k → ∃ (ws : List Str) (a' g' : Int), PyData.tuple c1 = .tuple (ws.map .str) ∧ ([pen L b k] : List PyData) = [pen L a' g'] ∧ ws.length ≤ 30 ∧ Ok ws ∧ a ≤ a' ∧ a' ≤ a + 80 ∧ 0 ≤ g' := fun b k c1 cl cp y1 y2 y3 => by
            obtain ⟨ws, rfl, hw⟩ := words_of cp
            rw [List.length_map] at cl
            exact ⟨ws, b, k, rfl, rfl, cl, hw, by omega, by omega, y3⟩
          refine Wp.sel (fun w4 => ?_) fun w4 => ?_
          · wtm_at "go"
            refine Wp.sel (fun w5 => ?_) fun w5 => ?_
            · have fl : 1 ≤ fs.length := by
                cases fs with
                | nil => cases w5
                | cons f fs => simp
              wtm_at "go"
              wtm_at "pk"
              intro v6 a6 g6 p6 q6 l6 u6 z6
              wtm_at "go"
              refine Wp.at (by omega) (by omega) fun y hy => ?_
              wtm_at "go"
              wtm_at "pk"
              intro v7 a7 g7 p7 q7 l7 u7 z7
              wtm_at "go"
              rw [setC_ok (by omega) (by omega)]
              wtm_at "go"
              exact fin a7 g7 _ (by rw [List.length_set]; exact tl) (pw_set tp (pw_map hv y hy)) (by omega) (by omega) z7
            · wtm_at "go"
              exact fin a2 g2 _ tl tp (by omega) (by omega) b3
          · wtm_at "go"
            refine Wp.selF w4 ?_
            wtm_at "go"
            exact fin a2 g2 _ tl tp (by omega) (by omega) b3
    · skip
      wtm_at "go"
      refine Wp.sel (fun w3 => ?_) fun w3 => ?_
      · wtm_at "go"
        have zn : ((vs).map PyData.str).length = (vs).length := by simp
        wtm_at "pk"
        intro v3 a3 g3 p3 q3 l3 u3 z3
        obtain ⟨m, rfl⟩ := Int.eq_ofNat_of_zero_le p3
        wtm_at "go"
        rw [show (1 : Int) + (m : Int) = ((m + 1 : Nat) : Int) by omega, cut_to]
        wtm_at "go"
        wtm_at "pk"
        intro size a5 g5 p5 q5 l5 u5 z5
        wtm_at "go"
        rw [cut_to]
        wtm_at "go"
        wtm_at "rg"
        wtm_at "go"
        have zl : (((vs).take (m + 1)).map PyData.str).length = ((vs).take (m + 1)).length := by simp
        have zp := pw_map (ws := (vs).take (m + 1)) (fun w hw => hv w (List.mem_of_mem_take hw))
        have zz : 1 ≤ ((vs).take (m + 1)).length := by rw [List.length_take]; omega
        have zz2 : ((vs).take (m + 1)).length ≤ 30 := by rw [List.length_take]; omega
        refine Wp.lc (fun rest ac r => ∃ (a2 g2 : Int), r = [.rf (pen L a2 g2), .sh (.tuple (ss.map .str)), .sh (.list (vs.map .str)), .sh (.int 30), .sh (.int way), .sh (.int (n : Int)), .ow (.list (((vs).take (m + 1)).map .str)), .sh (.int size), .un, .un] ∧ ac.length + rest.length = size.toNat ∧ (∀ x ∈ ac, PW x) ∧ a ≤ a2 ∧ a2 ≤ a + 4 + ac.length ∧ 0 ≤ g2) ?_ ?_ ⟨a5, g5, rfl, by simp [rgD_len], by simp, by omega, by simp; omega, z5⟩
        · rintro x xs ac r ⟨a2, g2, rfl, hr, hq, b1, b2, b3⟩
          simp only [List.length_cons] at hr
          wtm_at "go"
          wtm_at "pk"
          intro t a3 g3 p3 q3 l3 u3 z3
          wtm_at "go"
          refine Wp.at (by omega) (by omega) fun y hy => ?_
          wtm_at "go"
          exact ⟨a3, g3, rfl, by simp; omega, pw_app hq (pw_one (zp y hy)), by omega, by simp; omega, z3⟩
        · rintro ac r ⟨a2, g2, rfl, hr, hq, b1, b2, b3⟩
          simp only [List.length_nil] at hr
          wtm_at "go"
          have tp := pw_app (pw_map (show Ok (ss.take n) from fun w hw => hs w (List.mem_of_mem_take hw))) hq
          have tl : ((ss.take n).map PyData.str ++ ac).length ≤ 30 := by rw [List.length_append, List.length_map, List.length_take]; omega
          generalize (ss.take n).map PyData.str ++ ac = fs at tp tl
          have fin : ∀ (b k : Int) (c1 : List PyData), c1.length ≤ 30 → (∀ x ∈ c1, PW x) → a2 ≤ b → b ≤ a2 + 2 → 0 ≤ k → ∃ (ws : List Str) (a' g' : Int), PyData.tuple c1 = .tuple (ws.map .str) ∧ ([pen L b k] : List PyData) = [pen L a' g'] ∧ ws.length ≤ 30 ∧ Ok ws ∧ a ≤ a' ∧ a' ≤ a + 80 ∧ 0 ≤ g' := fun b k c1 cl cp y1 y2 y3 => by
            obtain ⟨ws, rfl, hw⟩ := words_of cp
            rw [List.length_map] at cl
            exact ⟨ws, b, k, rfl, rfl, cl, hw, by omega, by omega, y3⟩
          refine Wp.sel (fun w4 => ?_) fun w4 => ?_
          · wtm_at "go"
            refine Wp.sel (fun w5 => ?_) fun w5 => ?_
            · have fl : 1 ≤ fs.length := by
                cases fs with
                | nil => cases w5
                | cons f fs => simp
              wtm_at "go"
              wtm_at "pk"
              intro v6 a6 g6 p6 q6 l6 u6 z6
              wtm_at "go"
              refine Wp.at (by omega) (by omega) fun y hy => ?_
              wtm_at "go"
              wtm_at "pk"
              intro v7 a7 g7 p7 q7 l7 u7 z7
              wtm_at "go"
              rw [setC_ok (by omega) (by omega)]
              wtm_at "go"
              exact fin a7 g7 _ (by rw [List.length_set]; exact tl) (pw_set tp (pw_map hv y hy)) (by omega) (by omega) z7
            · wtm_at "go"
              exact fin a2 g2 _ tl tp (by omega) (by omega) b3
          · wtm_at "go"
            refine Wp.selF w4 ?_
            wtm_at "go"
            exact fin a2 g2 _ tl tp (by omega) (by omega) b3
      · skip
        wtm_at "go"
        wtm_at "pk"
        intro size a5 g5 p5 q5 l5 u5 z5
        wtm_at "go"
        rw [cut_to]
        wtm_at "go"
        wtm_at "rg"
        wtm_at "go"
        have zl : ((vs).map PyData.str).length = (vs).length := by simp
        have zp := pw_map (ws := vs) hv
        have zz : 1 ≤ (vs).length := by omega
        have zz2 : (vs).length ≤ 30 := by omega
        refine Wp.lc (fun rest ac r => ∃ (a2 g2 : Int), r = [.rf (pen L a2 g2), .sh (.tuple (ss.map .str)), .sh (.list (vs.map .str)), .sh (.int 30), .sh (.int way), .sh (.int (n : Int)), .sh (.list ((vs).map .str)), .sh (.int size), .un, .un] ∧ ac.length + rest.length = size.toNat ∧ (∀ x ∈ ac, PW x) ∧ a ≤ a2 ∧ a2 ≤ a + 4 + ac.length ∧ 0 ≤ g2) ?_ ?_ ⟨a5, g5, rfl, by simp [rgD_len], by simp, by omega, by simp; omega, z5⟩
        · rintro x xs ac r ⟨a2, g2, rfl, hr, hq, b1, b2, b3⟩
          simp only [List.length_cons] at hr
          wtm_at "go"
          wtm_at "pk"
          intro t a3 g3 p3 q3 l3 u3 z3
          wtm_at "go"
          refine Wp.at (by omega) (by omega) fun y hy => ?_
          wtm_at "go"
          exact ⟨a3, g3, rfl, by simp; omega, pw_app hq (pw_one (zp y hy)), by omega, by simp; omega, z3⟩
        · rintro ac r ⟨a2, g2, rfl, hr, hq, b1, b2, b3⟩
          simp only [List.length_nil] at hr
          wtm_at "go"
          have tp := pw_app (pw_map (show Ok (ss.take n) from fun w hw => hs w (List.mem_of_mem_take hw))) hq
          have tl : ((ss.take n).map PyData.str ++ ac).length ≤ 30 := by rw [List.length_append, List.length_map, List.length_take]; omega
          generalize (ss.take n).map PyData.str ++ ac = fs at tp tl
          have fin : ∀ (b k : Int) (c1 : List PyData), c1.length ≤ 30 → (∀ x ∈ c1, PW x) → a2 ≤ b → b ≤ a2 + 2 → 0 ≤ k → ∃ (ws : List Str) (a' g' : Int), PyData.tuple c1 = .tuple (ws.map .str) ∧ ([pen L b k] : List PyData) = [pen L a' g'] ∧ ws.length ≤ 30 ∧ Ok ws ∧ a ≤ a' ∧ a' ≤ a + 80 ∧ 0 ≤ g' := fun b k c1 cl cp y1 y2 y3 => by
            obtain ⟨ws, rfl, hw⟩ := words_of cp
            rw [List.length_map] at cl
            exact ⟨ws, b, k, rfl, rfl, cl, hw, by omega, by omega, y3⟩
          refine Wp.sel (fun w4 => ?_) fun w4 => ?_
          · wtm_at "go"
            refine Wp.sel (fun w5 => ?_) fun w5 => ?_
            · have fl : 1 ≤ fs.length := by
                cases fs with
                | nil => cases w5
                | cons f fs => simp
              wtm_at "go"
              wtm_at "pk"
              intro v6 a6 g6 p6 q6 l6 u6 z6
              wtm_at "go"
              refine Wp.at (by omega) (by omega) fun y hy => ?_
              wtm_at "go"
              wtm_at "pk"
              intro v7 a7 g7 p7 q7 l7 u7 z7
              wtm_at "go"
              rw [setC_ok (by omega) (by omega)]
              wtm_at "go"
              exact fin a7 g7 _ (by rw [List.length_set]; exact tl) (pw_set tp (pw_map hv y hy)) (by omega) (by omega) z7
            · wtm_at "go"
              exact fin a2 g2 _ tl tp (by omega) (by omega) b3
          · wtm_at "go"
            refine Wp.selF w4 ?_
            wtm_at "go"
            exact fin a2 g2 _ tl tp (by omega) (by omega) b3
end K88
end
section
open PySem Di
local macro_rules | `(tactic| wtm_at "st") => `(tactic| simp -dsimp only [↓w_c, ↓w_v, ↓w_gc, ↓w_kdx, ↓w_bop, ↓w_rep, ↓w_neg, ↓w_cmp, ↓w_chn, ↓w_isn, ↓w_and, ↓w_or, ↓w_not, ↓w_ite, ↓w_tup, ↓w_lst, ↓w_dic0, ↓w_call, ↓w_blt, ↓w_rng, ↓w_isi, ↓w_ix, ↓w_sl, ↓w_rev, revD, ↓w_lc, ↓w_app, ↓w_ext, ↓w_pop, ↓w_cap_d, ↓w_cap_f, ↓w_cap_o, capS, ↓w_snil, ↓w_scons, ↓w_sstar, ↓w_vnil, ↓w_vcons, ↓w_mnil, ↓w_mf, ↓w_mt, ↓w_ono, ↓w_oe, ↓w_cno, ↓w_ce, ↓w_ie, ↓w_i1, ↓w_i2, ↓w_izip, ↓w_iez, ↓w_irvr, ↓w_srt, ↓w_srd, ↓w_lns, ↓w_popi, ↓w_jn, ↓w_sfi, ↓w_ins, ↓w_ebad, ↓w_sbad, ↓w_ien, txV, lstD, ↓w_dst, ownK, kOf, ezD, zipD, ↓w_asgn, ↓w_asgt, ↓w_set2, ↓w_aug, ↓w_six, ↓w_swp, ↓w_par, ↓w_exp, ↓w_ret, ↓w_retn, ↓w_ife, ↓w_for, ↓w_whl, ↓w_brk, ↓w_cnt, ↓w_pas, ↓w_nil, ↓w_cons, ↓nxt_nx, ↓nxt_rt, ↓nxt_bk, ↓nxt_ct, ↓w_asgV_d, ↓w_asgV_f, ↓w_asgV_o, ↓w_tst, ↓wp_ok, wp_ok, wp_ex, ↓wp_some, wp_some, ↓wp_chkt, wp_chkt, wp_selt, wp_self, ↓wp_bind, lift_if, lift_map, vV_sh, vV_ow, vV_rf, isB, isnD, fL, seqD, oI, shI, tup2, ↓slot_z, ↓slot_s, res, Sl.data, Sl.own, ↓copD_eq, ↓copD_ne, cmpS, cmpI, cmp_l00, cmp_t00, copD, bopD, ixD, slD, opI, at0, at1, at2, at3, at4, set3_0, set3_1, set3_2, truD, truOk, mkV, asgT, asgL, ↓setN_s, setN_zu, setN_zs, setN_zo, ↓setO_z, ↓setO_s, ownL, ↓chg_s, chg_zo, chg_zr, retV, outsE, mapM0, ↓mapM1, ↓mapM2, ↓mapM3, bltD, isiD, Es.len, Ar.slots, nodup, datas, Ar.data, puts, itD, ↓wipe1s, ↓wipe2s, wipe0, shn_sn, shn_sh, shn_un, keepE_nr, keepE_sn, setN_nr, setN_sn, Tg.slots, keepE_nil, keepE_sh, keepE_un, keepE_ow, keepE_rf, augD, initE, rgI, List.set_cons_zero, List.set_cons_succ, List.replicate_succ, List.replicate_zero, ln0, ln1, ln2, ln3, ln4, ln5, ln6, ln7, ln8, ln9, ln10, ln11, ln12, ln13, ln14, ln15, ln16, Option.map, Bool.false_or, Bool.or_false, Bool.true_or, Bool.or_true, Bool.false_and, Bool.true_and, Bool.and_false, Bool.and_true, true_or, or_true, decide_true, decide_false, Bool.false_eq_true, and_self, and_true, true_and, Bool.not_true, Bool.not_false, Bool.and_self, Bool.not_not, List.getElem?_cons_zero, List.getElem?_cons_succ, List.take_succ_cons, List.take_zero, List.drop_succ_cons, List.drop_zero, List.nil_append, List.append_nil, List.cons_append, List.contains_nil, filter_ff, eqv_tnil', isE_nil, isE_cons, eqvI, eqvS, eqv_nil, List.map_cons, List.map_nil, es_pp, es_pd, es_ps, es_dp, es_dd, es_ds, es_sp, es_sd, es_ss, ite_tt, ite_ff, ↓reduceIte, Prod.fst, Prod.snd, K11.md_law_pen, K88.md_law_draw, K88.md_law_values, K88.md_law_stack, K88.md_law_target, K88.md_law_constants, K88.md_law_reach, K88.md_depth_beside, K88.md_common_prefix, K88.md_obstacle, K88.md_decide_beside, K88.md_decide_with_kw_constants_reach, K88.md_reaches_with_kw_constants_reach, K88.md_law_bare, K88.md_law_decided, K88.md_law_right, K88.md_law, eqv_scr_nil, cmp_nil, wipe3s])
local macro_rules | `(tactic| wtm_at "ck") => `(tactic| with_reducible refine Wp.chkd (by first | assumption | omega | (have hsl := slE; (try simp only [List.length_cons, List.length_nil, List.length_append, List.length_map, List.length_replicate, List.length_dropLast, List.length_set, List.length_take, List.length_drop, List.length_reverse]); omega)) ?_)
local macro_rules | `(tactic| wtm_at "pk") => `(tactic| with_reducible refine Wp.draw (K88.draw_run _ _ _ _ (by omega) (by omega) (by omega) (by omega) (by omega)) ?_)
local macro_rules | `(tactic| wtm_at "rg") => `(tactic| with_reducible refine Wp.lift (rg62_ok (by omega)) ?_)
local macro_rules | `(tactic| wtm_at "al") => `(tactic| ((repeat (refine all_cons ⟨_, rfl, by omega, by omega⟩ ?_)); exact all_nil))
local macro_rules | `(tactic| wtm_at "go") => `(tactic| repeat (first | wtm_at "ck" | wtm_at "st"))
local macro_rules | `(tactic| wtm_at "sl") => `(tactic| (with_reducible apply Wp.sel) <;> intro hsel)
local macro_rules | `(tactic| wtm_at "br") => `(tactic| repeat' (first | wtm_at "ck" | (with_reducible refine Wp.selT (by assumption) ?_) | (with_reducible refine Wp.selF (by assumption) ?_) | wtm_at "sl" | wtm_at "st"))
local macro_rules | `(tactic| wtm_at "bd") => `(tactic| repeat' (first | wtm_at "ck" | (with_reducible refine Wp.selp (by omega) ?_) | (with_reducible refine Wp.seln (by omega) ?_) | ((with_reducible apply Wp.seld) <;> intro hsel) | wtm_at "st"))
namespace K88
open PySem Di
theorem pen_run (ns : List Int) (h : ns.length ≤ 63) : K11.f_law_pen.run [scr ns] = .ok true (pen ns 0 0) [] := by
  apply Sp.eq
  refine sp_run (n := 1) (md := [false]) (b := K11.ir_law_pen) (tb := []) (ds := [.list (ns.map .int)]) rfl ?_
  delta K11.ir_law_pen
  wtm_at "go"
  have e : cutD (ns.map PyData.int) none (some 63) = ns.map PyData.int := by
    unfold cutD
    rw [show HT.sIx (ns.map PyData.int).length 0 none = 0 from rfl, show (63 : Int) = ((63 : Nat) : Int) from rfl, HT.sIx_nat, List.drop_zero, List.take_of_length_le]
    rw [List.length_map]; omega
  rw [e]
  wtm_at "go"
  rfl
end K88
end
section
open PySem Di
local macro_rules | `(tactic| wtm_at "st") => `(tactic| simp -dsimp only [↓w_c, ↓w_v, ↓w_gc, ↓w_kdx, ↓w_bop, ↓w_rep, ↓w_neg, ↓w_cmp, ↓w_chn, ↓w_isn, ↓w_and, ↓w_or, ↓w_not, ↓w_ite, ↓w_tup, ↓w_lst, ↓w_dic0, ↓w_call, ↓w_blt, ↓w_rng, ↓w_isi, ↓w_ix, ↓w_sl, ↓w_rev, revD, ↓w_lc, ↓w_app, ↓w_ext, ↓w_pop, ↓w_cap_d, ↓w_cap_f, ↓w_cap_o, capS, ↓w_snil, ↓w_scons, ↓w_sstar, ↓w_vnil, ↓w_vcons, ↓w_mnil, ↓w_mf, ↓w_mt, ↓w_ono, ↓w_oe, ↓w_cno, ↓w_ce, ↓w_ie, ↓w_i1, ↓w_i2, ↓w_izip, ↓w_iez, ↓w_irvr, ↓w_srt, ↓w_srd, ↓w_lns, ↓w_popi, ↓w_jn, ↓w_sfi, ↓w_ins, ↓w_ebad, ↓w_sbad, ↓w_ien, txV, lstD, ↓w_dst, ownK, kOf, ezD, zipD, ↓w_asgn, ↓w_asgt, ↓w_set2, ↓w_aug, ↓w_six, ↓w_swp, ↓w_par, ↓w_exp, ↓w_ret, ↓w_retn, ↓w_ife, ↓w_for, ↓w_whl, ↓w_brk, ↓w_cnt, ↓w_pas, ↓w_nil, ↓w_cons, ↓nxt_nx, ↓nxt_rt, ↓nxt_bk, ↓nxt_ct, ↓w_asgV_d, ↓w_asgV_f, ↓w_asgV_o, ↓w_tst, ↓wp_ok, wp_ok, wp_ex, ↓wp_some, wp_some, ↓wp_chkt, wp_chkt, wp_selt, wp_self, ↓wp_bind, lift_if, lift_map, vV_sh, vV_ow, vV_rf, isB, isnD, fL, seqD, oI, shI, tup2, ↓slot_z, ↓slot_s, res, Sl.data, Sl.own, ↓copD_eq, ↓copD_ne, cmpS, cmpI, cmp_l00, cmp_t00, copD, bopD, ixD, slD, opI, at0, at1, at2, at3, at4, set3_0, set3_1, set3_2, truD, truOk, mkV, asgT, asgL, ↓setN_s, setN_zu, setN_zs, setN_zo, ↓setO_z, ↓setO_s, ownL, ↓chg_s, chg_zo, chg_zr, retV, outsE, mapM0, ↓mapM1, ↓mapM2, ↓mapM3, bltD, isiD, Es.len, Ar.slots, nodup, datas, Ar.data, puts, itD, ↓wipe1s, ↓wipe2s, wipe0, shn_sn, shn_sh, shn_un, keepE_nr, keepE_sn, setN_nr, setN_sn, Tg.slots, keepE_nil, keepE_sh, keepE_un, keepE_ow, keepE_rf, augD, initE, rgI, List.set_cons_zero, List.set_cons_succ, List.replicate_succ, List.replicate_zero, ln0, ln1, ln2, ln3, ln4, ln5, ln6, ln7, ln8, ln9, ln10, ln11, ln12, ln13, ln14, ln15, ln16, Option.map, Bool.false_or, Bool.or_false, Bool.true_or, Bool.or_true, Bool.false_and, Bool.true_and, Bool.and_false, Bool.and_true, true_or, or_true, decide_true, decide_false, Bool.false_eq_true, and_self, and_true, true_and, Bool.not_true, Bool.not_false, Bool.and_self, Bool.not_not, List.getElem?_cons_zero, List.getElem?_cons_succ, List.take_succ_cons, List.take_zero, List.drop_succ_cons, List.drop_zero, List.nil_append, List.append_nil, List.cons_append, List.contains_nil, filter_ff, eqv_tnil', isE_nil, isE_cons, eqvI, eqvS, eqv_nil, List.map_cons, List.map_nil, es_pp, es_pd, es_ps, es_dp, es_dd, es_ds, es_sp, es_sd, es_ss, ite_tt, ite_ff, ↓reduceIte, Prod.fst, Prod.snd, K11.md_law_pen, K88.md_law_draw, K88.md_law_values, K88.md_law_stack, K88.md_law_target, K88.md_law_reach, K88.md_depth_beside, K88.md_common_prefix, K88.md_obstacle, K88.md_decide_beside, K44.md_decide_kw_reach, K44.md_reaches_kw_reach, K44.md_helpful_pushes_kw_reach, K44.md_law_is_reached, K44.md_law, eqv_scr_nil, cmp_nil, wipe3s])
local macro_rules | `(tactic| wtm_at "ck") => `(tactic| with_reducible refine Wp.chkd (by first | assumption | omega | (have hsl := slE; (try simp only [List.length_cons, List.length_nil, List.length_append, List.length_map, List.length_replicate, List.length_dropLast, List.length_set, List.length_take, List.length_drop, List.length_reverse]); omega)) ?_)
local macro_rules | `(tactic| wtm_at "pk") => `(tactic| with_reducible refine Wp.draw (K88.draw_run _ _ _ _ (by omega) (by omega) (by omega) (by omega) (by omega)) ?_)
local macro_rules | `(tactic| wtm_at "rg") => `(tactic| with_reducible refine Wp.lift (rg62_ok (by omega)) ?_)
local macro_rules | `(tactic| wtm_at "al") => `(tactic| ((repeat (refine all_cons ⟨_, rfl, by omega, by omega⟩ ?_)); exact all_nil))
local macro_rules | `(tactic| wtm_at "go") => `(tactic| repeat (first | wtm_at "ck" | wtm_at "st"))
local macro_rules | `(tactic| wtm_at "sl") => `(tactic| (with_reducible apply Wp.sel) <;> intro hsel)
local macro_rules | `(tactic| wtm_at "br") => `(tactic| repeat' (first | wtm_at "ck" | (with_reducible refine Wp.selT (by assumption) ?_) | (with_reducible refine Wp.selF (by assumption) ?_) | wtm_at "sl" | wtm_at "st"))
local macro_rules | `(tactic| wtm_at "bd") => `(tactic| repeat' (first | wtm_at "ck" | (with_reducible refine Wp.selp (by omega) ?_) | (with_reducible refine Wp.seln (by omega) ?_) | ((with_reducible apply Wp.seld) <;> intro hsel) | wtm_at "st"))
namespace K44
open PySem Di Wd K88
theorem stack_run (M : Int) (L : List Int) (vs : List Str) (a g : Int) (hM : 6 ≤ M) (hM2 : M ≤ 40) (h0 : 0 ≤ a) (ha : a ≤ 800000) (hg : 0 ≤ g) (hv : Ok vs) (lv : 1 ≤ vs.length) (lv2 : vs.length ≤ 12) :
    Sp (f_law_stack.run [pen L a g, .list (vs.map .str), .int M]) (fun fr d o => ∃ (ws : List Str) (a' g' : Int), fr = false ∧ d = tS ws ∧ o = [pen L a' g'] ∧ (ws.length : Int) ≤ M ∧ Ok ws ∧ a ≤ a' ∧ a' ≤ a + 90 ∧ 0 ≤ g') (fun _ _ => False) := by
  refine sp_run (n := 7) (md := [true, false, false]) (b := ir_law_stack) (tb := _) (ds := [pen L a g, .list (vs.map .str), .int M]) rfl ?_
  delta ir_law_stack
  have vl : (vs.map PyData.str).length = vs.length := by simp
  have vp := pw_map hv
  generalize vs.map PyData.str = xs at vl vp
  wtm_at "go"
  wtm_at "pk"
  intro v1 a1 g1 p1 q1 l1 u1 z1
  wtm_at "go"
  rw [show (if (6 : Int) < M then (6 : Int) else M) = 6 from by split <;> omega]
  wtm_at "go"
  wtm_at "pk"
  intro v2 a2 g2 p2 q2 l2 u2 z2
  wtm_at "go"
  wtm_at "pk"
  intro v3 a3 g3 p3 q3 l3 u3 z3
  wtm_at "go"
  refine Wp.atI 0 M (by wtm_at "al") (by omega) (by simp; omega) fun many li1 li2 => ?_
  wtm_at "go"
  wtm_at "pk"
  intro way a4 g4 p4 q4 l4 u4 z4
  wtm_at "go"
  wtm_at "rg"
  wtm_at "go"
  refine Wp.for (fun rest r => ∃ (a' g' : Int) (ac : List PyData) (s6 : Sn), r = [.rf (pen L a' g'), .sh (.list xs), .sh (.int M), .sh (.int many), .sh (.int way), .ow (.list ac), sn s6] ∧ rest = rgD (ac.length : Int) many ∧ (ac.length : Int) ≤ M ∧ (∀ x ∈ ac, PW x) ∧ a ≤ a' ∧ a' ≤ a + 4 + 2 * ac.length ∧ 0 ≤ g') ?step ?done ⟨a4, g4, [], .un, rfl, rfl, by simp; omega, by simp, by omega, by simp; omega, z4⟩
  case step =>
    rintro x rest r ⟨a', g', ac, s3, rfl, hr, hl, hp, b1, b2, b3⟩
    obtain ⟨rfl, rfl, lt⟩ := rgD_inv hr
    have em := Int.emod_nonneg (ac.length : Int) (b := (xs.length : Int)) (by omega)
    have em2 := Int.emod_lt_of_pos (ac.length : Int) (b := (xs.length : Int)) (by omega)
    wtm_at "go"
    wtm_at "pk"
    intro v5 a5 g5 p5 q5 l5 u5 z5
    wtm_at "go"
    refine Wp.at (by omega) (by omega) fun y hy => ?_
    wtm_at "go"
    refine Wp.at (by omega) (by omega) fun z hz => ?_
    wtm_at "go"
    refine Wp.atP PW (all_cons (vp y hy) (all_cons (vp z hz) all_nil)) (by split <;> omega) (by simp; split <;> omega) fun u hu => ?_
    have e1 : ((ac.length : Nat) : Int) + 1 = ((ac ++ [u]).length : Int) := by simp
    wtm_at "go"
    have fin : ∀ (b k : Int) (c1 : List PyData), c1.length = ac.length + 1 → (∀ x ∈ c1, PW x) → a5 ≤ b → b ≤ a5 + 1 → 0 ≤ k → ∃ (a' g' : Int) (ac_1 : List PyData) (s6 : Sn), ([.rf (pen L b k), .sh (.list xs), .sh (.int M), .sh (.int many), .sh (.int way), .ow (.list c1), .sh (.int (ac.length : Int))] : En) = [.rf (pen L a' g'), .sh (.list xs), .sh (.int M), .sh (.int many), .sh (.int way), .ow (.list ac_1), sn s6] ∧ rgD ((ac.length : Int) + 1) many = rgD (ac_1.length : Int) many ∧ (ac_1.length : Int) ≤ M ∧ (∀ x ∈ ac_1, PW x) ∧ a ≤ a' ∧ a' ≤ a + 4 + 2 * ac_1.length ∧ 0 ≤ g' := fun b k c1 cl cp y1 y2 y3 => ⟨b, k, c1, .sh _, rfl, by rw [cl]; congr 1, by omega, cp, by omega, by omega, y3⟩
    have pn := pw_app hp (pw_one hu)
    have ln : (ac ++ [u]).length = ac.length + 1 := by simp
    refine Wp.sel (fun w1 => ?_) fun w1 => ?_
    · wtm_at "go"
      refine Wp.sel (fun w2 => ?_) fun w2 => ?_
      · have w2 := of_decide_eq_true w2
        wtm_at "go"
        wtm_at "pk"
        intro v6 a6 g6 p6 q6 l6 u6 z6
        wtm_at "go"
        refine Wp.sel (fun w3 => ?_) fun w3 => ?_
        · wtm_at "go"
          refine Wp.at (by omega) (by omega) fun y2 hy2 => ?_
          wtm_at "go"
          rw [setC_ok (by omega) (by omega)]
          wtm_at "go"
          exact fin a6 g6 _ (by rw [List.length_set]; exact ln) (pw_set pn (pn y2 hy2)) l6 u6 z6
        · wtm_at "go"
          exact fin a6 g6 _ ln pn l6 u6 z6
      · wtm_at "go"
        refine Wp.selF w2 ?_
        wtm_at "go"
        exact fin a5 g5 _ ln pn (by omega) (by omega) z5
    · wtm_at "go"
      refine Wp.selF w1 ?_
      wtm_at "go"
      exact fin a5 g5 _ ln pn (by omega) (by omega) z5
  case done =>
    rintro r ⟨a', g', ac, s3, rfl, hr, hl, hp, b1, b2, b3⟩
    have hr := rgD_inv0 hr
    wtm_at "go"
    obtain ⟨ws, rfl, hw⟩ := words_of hp
    rw [List.length_map] at *
    exact ⟨ws, a', g', rfl, rfl, by omega, hw, by omega, by omega, b3⟩
end K44
end
section
open PySem Di
local macro_rules | `(tactic| wtm_at "st") => `(tactic| simp -dsimp only [↓w_c, ↓w_v, ↓w_gc, ↓w_kdx, ↓w_bop, ↓w_rep, ↓w_neg, ↓w_cmp, ↓w_chn, ↓w_isn, ↓w_and, ↓w_or, ↓w_not, ↓w_ite, ↓w_tup, ↓w_lst, ↓w_dic0, ↓w_call, ↓w_blt, ↓w_rng, ↓w_isi, ↓w_ix, ↓w_sl, ↓w_rev, revD, ↓w_lc, ↓w_app, ↓w_ext, ↓w_pop, ↓w_cap_d, ↓w_cap_f, ↓w_cap_o, capS, ↓w_snil, ↓w_scons, ↓w_sstar, ↓w_vnil, ↓w_vcons, ↓w_mnil, ↓w_mf, ↓w_mt, ↓w_ono, ↓w_oe, ↓w_cno, ↓w_ce, ↓w_ie, ↓w_i1, ↓w_i2, ↓w_izip, ↓w_iez, ↓w_irvr, ↓w_srt, ↓w_srd, ↓w_lns, ↓w_popi, ↓w_jn, ↓w_sfi, ↓w_ins, ↓w_ebad, ↓w_sbad, ↓w_ien, txV, lstD, ↓w_dst, ownK, kOf, ezD, zipD, ↓w_asgn, ↓w_asgt, ↓w_set2, ↓w_aug, ↓w_six, ↓w_swp, ↓w_par, ↓w_exp, ↓w_ret, ↓w_retn, ↓w_ife, ↓w_for, ↓w_whl, ↓w_brk, ↓w_cnt, ↓w_pas, ↓w_nil, ↓w_cons, ↓nxt_nx, ↓nxt_rt, ↓nxt_bk, ↓nxt_ct, ↓w_asgV_d, ↓w_asgV_f, ↓w_asgV_o, ↓w_tst, ↓wp_ok, wp_ok, wp_ex, ↓wp_some, wp_some, ↓wp_chkt, wp_chkt, wp_selt, wp_self, ↓wp_bind, lift_if, lift_map, vV_sh, vV_ow, vV_rf, isB, isnD, fL, seqD, oI, shI, tup2, ↓slot_z, ↓slot_s, res, Sl.data, Sl.own, ↓copD_eq, ↓copD_ne, cmpS, cmpI, cmp_l00, cmp_t00, copD, bopD, ixD, slD, opI, at0, at1, at2, at3, at4, set3_0, set3_1, set3_2, truD, truOk, mkV, asgT, asgL, ↓setN_s, setN_zu, setN_zs, setN_zo, ↓setO_z, ↓setO_s, ownL, ↓chg_s, chg_zo, chg_zr, retV, outsE, mapM0, ↓mapM1, ↓mapM2, ↓mapM3, bltD, isiD, Es.len, Ar.slots, nodup, datas, Ar.data, puts, itD, ↓wipe1s, ↓wipe2s, wipe0, shn_sn, shn_sh, shn_un, keepE_nr, keepE_sn, setN_nr, setN_sn, Tg.slots, keepE_nil, keepE_sh, keepE_un, keepE_ow, keepE_rf, augD, initE, rgI, List.set_cons_zero, List.set_cons_succ, List.replicate_succ, List.replicate_zero, ln0, ln1, ln2, ln3, ln4, ln5, ln6, ln7, ln8, ln9, ln10, ln11, ln12, ln13, ln14, ln15, ln16, Option.map, Bool.false_or, Bool.or_false, Bool.true_or, Bool.or_true, Bool.false_and, Bool.true_and, Bool.and_false, Bool.and_true, true_or, or_true, decide_true, decide_false, Bool.false_eq_true, and_self, and_true, true_and, Bool.not_true, Bool.not_false, Bool.and_self, Bool.not_not, List.getElem?_cons_zero, List.getElem?_cons_succ, List.take_succ_cons, List.take_zero, List.drop_succ_cons, List.drop_zero, List.nil_append, List.append_nil, List.cons_append, List.contains_nil, filter_ff, eqv_tnil', isE_nil, isE_cons, eqvI, eqvS, eqv_nil, List.map_cons, List.map_nil, es_pp, es_pd, es_ps, es_dp, es_dd, es_ds, es_sp, es_sd, es_ss, ite_tt, ite_ff, ↓reduceIte, Prod.fst, Prod.snd, K11.md_law_pen, K88.md_law_draw, K88.md_law_values, K88.md_law_stack, K88.md_law_target, K88.md_law_reach, K88.md_depth_beside, K88.md_common_prefix, K88.md_obstacle, K88.md_decide_beside, K44.md_decide_kw_reach, K44.md_reaches_kw_reach, K44.md_helpful_pushes_kw_reach, K44.md_law_is_reached, K44.md_law, eqv_scr_nil, cmp_nil, wipe3s])
local macro_rules | `(tactic| wtm_at "ck") => `(tactic| with_reducible refine Wp.chkd (by first | assumption | omega | (have hsl := slE; (try simp only [List.length_cons, List.length_nil, List.length_append, List.length_map, List.length_replicate, List.length_dropLast, List.length_set, List.length_take, List.length_drop, List.length_reverse]); omega)) ?_)
local macro_rules | `(tactic| wtm_at "pk") => `(tactic| with_reducible refine Wp.draw (K88.draw_run _ _ _ _ (by omega) (by omega) (by omega) (by omega) (by omega)) ?_)
local macro_rules | `(tactic| wtm_at "rg") => `(tactic| with_reducible refine Wp.lift (rg62_ok (by omega)) ?_)
local macro_rules | `(tactic| wtm_at "al") => `(tactic| ((repeat (refine all_cons ⟨_, rfl, by omega, by omega⟩ ?_)); exact all_nil))
local macro_rules | `(tactic| wtm_at "go") => `(tactic| repeat (first | wtm_at "ck" | wtm_at "st"))
local macro_rules | `(tactic| wtm_at "sl") => `(tactic| (with_reducible apply Wp.sel) <;> intro hsel)
local macro_rules | `(tactic| wtm_at "br") => `(tactic| repeat' (first | wtm_at "ck" | (with_reducible refine Wp.selT (by assumption) ?_) | (with_reducible refine Wp.selF (by assumption) ?_) | wtm_at "sl" | wtm_at "st"))
local macro_rules | `(tactic| wtm_at "bd") => `(tactic| repeat' (first | wtm_at "ck" | (with_reducible refine Wp.selp (by omega) ?_) | (with_reducible refine Wp.seln (by omega) ?_) | ((with_reducible apply Wp.seld) <;> intro hsel) | wtm_at "st"))
namespace K44
open PySem Di Wd K88
theorem target_run (M : Int) (L : List Int) (ss vs : List Str) (a g : Int) (hM : 6 ≤ M) (hM2 : M ≤ 40) (h0 : 0 ≤ a) (ha : a ≤ 700000) (hg : 0 ≤ g) (hv : Ok vs) (lv : 1 ≤ vs.length) (lv2 : vs.length ≤ 12) (hs : Ok ss) (ls : ss.length ≤ 40) :
    Sp (f_law_target.run [pen L a g, tS ss, .list (vs.map .str), .int M]) (fun fr d o => ∃ (ws : List Str) (a' g' : Int), fr = false ∧ d = tS ws ∧ o = [pen L a' g'] ∧ (ws.length : Int) ≤ M ∧ Ok ws ∧ a ≤ a' ∧ a' ≤ a + 95 ∧ 0 ≤ g') (fun _ _ => False) := by
  refine sp_run (n := 10) (md := [true, false, false, false]) (b := ir_law_target) (tb := _) (ds := [pen L a g, tS ss, .list (vs.map .str), .int M]) rfl ?_
  delta ir_law_target
  have vl : (vs.map PyData.str).length = vs.length := by simp
  have sl2 : (ss.map PyData.str).length = ss.length := by simp
  unfold tS
  wtm_at "go"
  wtm_at "pk"
  intro way a1 g1 p1 q1 l1 u1 z1
  wtm_at "go"
  refine Wp.sel (fun w1 => ?_) fun w1 => ?_
  · wtm_at "go"
    refine Wp.call (stack_run M L vs a1 g1 (by omega) hM2 (by omega) (by omega) z1 hv lv lv2) (fun fr d o e => ?_) fun _ _ h => h.elim
    obtain ⟨ws, a2, g2, rfl, rfl, rfl, k1, k2, k3, k4, k5⟩ := e
    wtm_at "go"
    exact ⟨ws, a2, g2, rfl, rfl, k1, k2, by omega, by omega, k5⟩
  · wtm_at "go"
    obtain ⟨mn, hmn, m1, m2, m3⟩ : ∃ mn : Int, (if M < ((ss.map PyData.str).length : Int) then M else ((ss.map PyData.str).length : Int)) = mn ∧ mn ≤ M ∧ mn ≤ (ss.length : Int) ∧ 0 ≤ mn := ⟨_, rfl, by split <;> omega, by split <;> omega, by split <;> omega⟩
    rw [hmn]
    wtm_at "go"
    wtm_at "pk"
    intro floor a2 g2 p2 q2 l2 u2 z2
    obtain ⟨n, rfl⟩ := Int.eq_ofNat_of_zero_le p2
    wtm_at "go"
    rw [cut_from]
    wtm_at "go"
    refine Wp.sel (fun w2 => ?_) fun w2 => ?_
    · have dl : 1 ≤ (ss.drop n).length := by
        cases q : ss.drop n with
        | nil => rw [q] at w2; cases w2
        | cons _ _ => simp
      have dl2 : ((ss.drop n).length : Int) ≤ 40 := by rw [List.length_drop]; omega
      wtm_at "go"
      refine Wp.sel (fun w3 => ?_) fun w3 => ?_
      · wtm_at "go"
        have zn : ((ss.drop n).map PyData.str).length = (ss.drop n).length := by simp
        wtm_at "pk"
        intro v3 a3 g3 p3 q3 l3 u3 z3
        obtain ⟨m, rfl⟩ := Int.eq_ofNat_of_zero_le p3
        wtm_at "go"
        rw [show (1 : Int) + (m : Int) = ((m + 1 : Nat) : Int) by omega, cut_to]
        wtm_at "go"
        wtm_at "pk"
        intro size a5 g5 p5 q5 l5 u5 z5
        wtm_at "go"
        rw [cut_to]
        wtm_at "go"
        wtm_at "rg"
        wtm_at "go"
        have zl : (((ss.drop n).take (m + 1)).map PyData.str).length = ((ss.drop n).take (m + 1)).length := by simp
        have zp := pw_map (ws := (ss.drop n).take (m + 1)) (fun w hw => (fun w hw => hs w (List.mem_of_mem_drop hw)) w (List.mem_of_mem_take hw))
        have zz : 1 ≤ ((ss.drop n).take (m + 1)).length := by rw [List.length_take]; omega
        have zz2 : ((((ss.drop n).take (m + 1)).length : Nat) : Int) ≤ 40 := by rw [List.length_take]; omega
        refine Wp.lc (fun rest ac r => ∃ (a2 g2 : Int), r = [.rf (pen L a2 g2), .sh (.tuple (ss.map .str)), .sh (.list (vs.map .str)), .sh (.int M), .sh (.int way), .sh (.int (n : Int)), .ow (.list (((ss.drop n).take (m + 1)).map .str)), .sh (.int size), .un, .un] ∧ ac.length + rest.length = size.toNat ∧ (∀ x ∈ ac, PW x) ∧ a ≤ a2 ∧ a2 ≤ a + 4 + ac.length ∧ 0 ≤ g2) ?_ ?_ ⟨a5, g5, rfl, by simp [rgD_len], by simp, by omega, by simp; omega, z5⟩
        · rintro x xs ac r ⟨a2, g2, rfl, hr, hq, b1, b2, b3⟩
          simp only [List.length_cons] at hr
          wtm_at "go"
          wtm_at "pk"
          intro t a3 g3 p3 q3 l3 u3 z3
          wtm_at "go"
          refine Wp.at (by omega) (by omega) fun y hy => ?_
          wtm_at "go"
          exact ⟨a3, g3, rfl, by simp; omega, pw_app hq (pw_one (zp y hy)), by omega, by simp; omega, z3⟩
        · rintro ac r ⟨a2, g2, rfl, hr, hq, b1, b2, b3⟩
          simp only [List.length_nil] at hr
          wtm_at "go"
          have tp := pw_app (pw_map (show Ok (ss.take n) from fun w hw => hs w (List.mem_of_mem_take hw))) hq
          have tl : ((ss.take n).map PyData.str ++ ac).length ≤ M.toNat := by rw [List.length_append, List.length_map, List.length_take]; omega
          generalize (ss.take n).map PyData.str ++ ac = fs at tp tl
          have fin : ∀ (b k : Int) (c1 : List PyData), c1.length ≤ M.toNat → (∀ x ∈ c1, PW x) → a2 ≤ b → b ≤ a2 + 2 → 0 ≤ k → ∃ (ws : List Str) (a' g' : Int), PyData.tuple c1 = .tuple (ws.map .str) ∧ ([pen L b k] : List PyData) = [pen L a' g'] ∧ (ws.length : Int) ≤ M ∧ Ok ws ∧ a ≤ a' ∧ a' ≤ a + 95 ∧ 0 ≤ g' := fun b k c1 cl cp y1 y2 y3 => by
            obtain ⟨ws, rfl, hw⟩ := words_of cp
            rw [List.length_map] at cl
            exact ⟨ws, b, k, rfl, rfl, by omega, hw, by omega, by omega, y3⟩
          refine Wp.sel (fun w4 => ?_) fun w4 => ?_
          · wtm_at "go"
            refine Wp.sel (fun w5 => ?_) fun w5 => ?_
            · have fl : 1 ≤ fs.length := by
                cases fs with
                | nil => cases w5
                | cons f fs => simp
              wtm_at "go"
              wtm_at "pk"
              intro v6 a6 g6 p6 q6 l6 u6 z6
              wtm_at "go"
              refine Wp.at (by omega) (by omega) fun y hy => ?_
              wtm_at "go"
              wtm_at "pk"
              intro v7 a7 g7 p7 q7 l7 u7 z7
              wtm_at "go"
              rw [setC_ok (by omega) (by omega)]
              wtm_at "go"
              exact fin a7 g7 _ (by rw [List.length_set]; exact tl) (pw_set tp (pw_map hv y hy)) (by omega) (by omega) z7
            · wtm_at "go"
              exact fin a2 g2 _ tl tp (by omega) (by omega) b3
          · wtm_at "go"
            refine Wp.selF w4 ?_
            wtm_at "go"
            exact fin a2 g2 _ tl tp (by omega) (by omega) b3
      · skip
        wtm_at "go"
        wtm_at "pk"
        intro size a5 g5 p5 q5 l5 u5 z5
        wtm_at "go"
        rw [cut_to]
        wtm_at "go"
        wtm_at "rg"
        wtm_at "go"
        have zl : ((ss.drop n).map PyData.str).length = (ss.drop n).length := by simp
        have zp := pw_map (ws := ss.drop n) (fun w hw => hs w (List.mem_of_mem_drop hw))
        have zz : 1 ≤ (ss.drop n).length := by omega
        have zz2 : ((ss.drop n).length : Int) ≤ 40 := by omega
        refine Wp.lc (fun rest ac r => ∃ (a2 g2 : Int), r = [.rf (pen L a2 g2), .sh (.tuple (ss.map .str)), .sh (.list (vs.map .str)), .sh (.int M), .sh (.int way), .sh (.int (n : Int)), .ow (.list ((ss.drop n).map .str)), .sh (.int size), .un, .un] ∧ ac.length + rest.length = size.toNat ∧ (∀ x ∈ ac, PW x) ∧ a ≤ a2 ∧ a2 ≤ a + 4 + ac.length ∧ 0 ≤ g2) ?_ ?_ ⟨a5, g5, rfl, by simp [rgD_len], by simp, by omega, by simp; omega, z5⟩
        · rintro x xs ac r ⟨a2, g2, rfl, hr, hq, b1, b2, b3⟩
          simp only [List.length_cons] at hr
          wtm_at "go"
          wtm_at "pk"
          intro t a3 g3 p3 q3 l3 u3 z3
          wtm_at "go"
          refine Wp.at (by omega) (by omega) fun y hy => ?_
          wtm_at "go"
          exact ⟨a3, g3, rfl, by simp; omega, pw_app hq (pw_one (zp y hy)), by omega, by simp; omega, z3⟩
        · rintro ac r ⟨a2, g2, rfl, hr, hq, b1, b2, b3⟩
          simp only [List.length_nil] at hr
          wtm_at "go"
          have tp := pw_app (pw_map (show Ok (ss.take n) from fun w hw => hs w (List.mem_of_mem_take hw))) hq
          have tl : ((ss.take n).map PyData.str ++ ac).length ≤ M.toNat := by rw [List.length_append, List.length_map, List.length_take]; omega
          generalize (ss.take n).map PyData.str ++ ac = fs at tp tl
          have fin : ∀ (b k : Int) (c1 : List PyData), c1.length ≤ M.toNat → (∀ x ∈ c1, PW x) → a2 ≤ b → b ≤ a2 + 2 → 0 ≤ k → ∃ (ws : List Str) (a' g' : Int), PyData.tuple c1 = .tuple (ws.map .str) ∧ ([pen L b k] : List PyData) = [pen L a' g'] ∧ (ws.length : Int) ≤ M ∧ Ok ws ∧ a ≤ a' ∧ a' ≤ a + 95 ∧ 0 ≤ g' := fun b k c1 cl cp y1 y2 y3 => by
            obtain ⟨ws, rfl, hw⟩ := words_of cp
            rw [List.length_map] at cl
            exact ⟨ws, b, k, rfl, rfl, by omega, hw, by omega, by omega, y3⟩
          refine Wp.sel (fun w4 => ?_) fun w4 => ?_
          · wtm_at "go"
            refine Wp.sel (fun w5 => ?_) fun w5 => ?_
            · have fl : 1 ≤ fs.length := by
                cases fs with
                | nil => cases w5
                | cons f fs => simp
              wtm_at "go"
              wtm_at "pk"
              intro v6 a6 g6 p6 q6 l6 u6 z6
              wtm_at "go"
              refine Wp.at (by omega) (by omega) fun y hy => ?_
              wtm_at "go"
              wtm_at "pk"
              intro v7 a7 g7 p7 q7 l7 u7 z7
              wtm_at "go"
              rw [setC_ok (by omega) (by omega)]
              wtm_at "go"
              exact fin a7 g7 _ (by rw [List.length_set]; exact tl) (pw_set tp (pw_map hv y hy)) (by omega) (by omega) z7
            · wtm_at "go"
              exact fin a2 g2 _ tl tp (by omega) (by omega) b3
          · wtm_at "go"
            refine Wp.selF w4 ?_
            wtm_at "go"
            exact fin a2 g2 _ tl tp (by omega) (by omega) b3
    · skip
      wtm_at "go"
      refine Wp.sel (fun w3 => ?_) fun w3 => ?_
      · wtm_at "go"
        have zn : ((vs).map PyData.str).length = (vs).length := by simp
        wtm_at "pk"
        intro v3 a3 g3 p3 q3 l3 u3 z3
        obtain ⟨m, rfl⟩ := Int.eq_ofNat_of_zero_le p3
        wtm_at "go"
        rw [show (1 : Int) + (m : Int) = ((m + 1 : Nat) : Int) by omega, cut_to]
        wtm_at "go"
        wtm_at "pk"
        intro size a5 g5 p5 q5 l5 u5 z5
        wtm_at "go"
        rw [cut_to]
        wtm_at "go"
        wtm_at "rg"
        wtm_at "go"
        have zl : (((vs).take (m + 1)).map PyData.str).length = ((vs).take (m + 1)).length := by simp
        have zp := pw_map (ws := (vs).take (m + 1)) (fun w hw => hv w (List.mem_of_mem_take hw))
        have zz : 1 ≤ ((vs).take (m + 1)).length := by rw [List.length_take]; omega
        have zz2 : ((((vs).take (m + 1)).length : Nat) : Int) ≤ 40 := by rw [List.length_take]; omega
        refine Wp.lc (fun rest ac r => ∃ (a2 g2 : Int), r = [.rf (pen L a2 g2), .sh (.tuple (ss.map .str)), .sh (.list (vs.map .str)), .sh (.int M), .sh (.int way), .sh (.int (n : Int)), .ow (.list (((vs).take (m + 1)).map .str)), .sh (.int size), .un, .un] ∧ ac.length + rest.length = size.toNat ∧ (∀ x ∈ ac, PW x) ∧ a ≤ a2 ∧ a2 ≤ a + 4 + ac.length ∧ 0 ≤ g2) ?_ ?_ ⟨a5, g5, rfl, by simp [rgD_len], by simp, by omega, by simp; omega, z5⟩
        · rintro x xs ac r ⟨a2, g2, rfl, hr, hq, b1, b2, b3⟩
          simp only [List.length_cons] at hr
          wtm_at "go"
          wtm_at "pk"
          intro t a3 g3 p3 q3 l3 u3 z3
          wtm_at "go"
          refine Wp.at (by omega) (by omega) fun y hy => ?_
          wtm_at "go"
          exact ⟨a3, g3, rfl, by simp; omega, pw_app hq (pw_one (zp y hy)), by omega, by simp; omega, z3⟩
        · rintro ac r ⟨a2, g2, rfl, hr, hq, b1, b2, b3⟩
          simp only [List.length_nil] at hr
          wtm_at "go"
          have tp := pw_app (pw_map (show Ok (ss.take n) from fun w hw => hs w (List.mem_of_mem_take hw))) hq
          have tl : ((ss.take n).map PyData.str ++ ac).length ≤ M.toNat := by rw [List.length_append, List.length_map, List.length_take]; omega
          generalize (ss.take n).map PyData.str ++ ac = fs at tp tl
          have fin : ∀ (b k : Int) (c1 : List PyData), c1.length ≤ M.toNat → (∀ x ∈ c1, PW x) → a2 ≤ b → b ≤ a2 + 2 → 0 ≤ k → ∃ (ws : List Str) (a' g' : Int), PyData.tuple c1 = .tuple (ws.map .str) ∧ ([pen L b k] : List PyData) = [pen L a' g'] ∧ (ws.length : Int) ≤ M ∧ Ok ws ∧ a ≤ a' ∧ a' ≤ a + 95 ∧ 0 ≤ g' := fun b k c1 cl cp y1 y2 y3 => by
            obtain ⟨ws, rfl, hw⟩ := words_of cp
            rw [List.length_map] at cl
            exact ⟨ws, b, k, rfl, rfl, by omega, hw, by omega, by omega, y3⟩
          refine Wp.sel (fun w4 => ?_) fun w4 => ?_
          · wtm_at "go"
            refine Wp.sel (fun w5 => ?_) fun w5 => ?_
            · have fl : 1 ≤ fs.length := by
                cases fs with
                | nil => cases w5
                | cons f fs => simp
              wtm_at "go"
              wtm_at "pk"
              intro v6 a6 g6 p6 q6 l6 u6 z6
              wtm_at "go"
              refine Wp.at (by omega) (by omega) fun y hy => ?_
              wtm_at "go"
              wtm_at "pk"
              intro v7 a7 g7 p7 q7 l7 u7 z7
              wtm_at "go"
              rw [setC_ok (by omega) (by omega)]
              wtm_at "go"
              exact fin a7 g7 _ (by rw [List.length_set]; exact tl) (pw_set tp (pw_map hv y hy)) (by omega) (by omega) z7
            · wtm_at "go"
              exact fin a2 g2 _ tl tp (by omega) (by omega) b3
          · wtm_at "go"
            refine Wp.selF w4 ?_
            wtm_at "go"
            exact fin a2 g2 _ tl tp (by omega) (by omega) b3
      · skip
        wtm_at "go"
        wtm_at "pk"
        intro size a5 g5 p5 q5 l5 u5 z5
        wtm_at "go"
        rw [cut_to]
        wtm_at "go"
        wtm_at "rg"
        wtm_at "go"
        have zl : ((vs).map PyData.str).length = (vs).length := by simp
        have zp := pw_map (ws := vs) hv
        have zz : 1 ≤ (vs).length := by omega
        have zz2 : (((vs).length : Nat) : Int) ≤ 40 := by omega
        refine Wp.lc (fun rest ac r => ∃ (a2 g2 : Int), r = [.rf (pen L a2 g2), .sh (.tuple (ss.map .str)), .sh (.list (vs.map .str)), .sh (.int M), .sh (.int way), .sh (.int (n : Int)), .sh (.list ((vs).map .str)), .sh (.int size), .un, .un] ∧ ac.length + rest.length = size.toNat ∧ (∀ x ∈ ac, PW x) ∧ a ≤ a2 ∧ a2 ≤ a + 4 + ac.length ∧ 0 ≤ g2) ?_ ?_ ⟨a5, g5, rfl, by simp [rgD_len], by simp, by omega, by simp; omega, z5⟩
        · rintro x xs ac r ⟨a2, g2, rfl, hr, hq, b1, b2, b3⟩
          simp only [List.length_cons] at hr
          wtm_at "go"
          wtm_at "pk"
          intro t a3 g3 p3 q3 l3 u3 z3
          wtm_at "go"
          refine Wp.at (by omega) (by omega) fun y hy => ?_
          wtm_at "go"
          exact ⟨a3, g3, rfl, by simp; omega, pw_app hq (pw_one (zp y hy)), by omega, by simp; omega, z3⟩
        · rintro ac r ⟨a2, g2, rfl, hr, hq, b1, b2, b3⟩
          simp only [List.length_nil] at hr
          wtm_at "go"
          have tp := pw_app (pw_map (show Ok (ss.take n) from fun w hw => hs w (List.mem_of_mem_take hw))) hq
          have tl : ((ss.take n).map PyData.str ++ ac).length ≤ M.toNat := by rw [List.length_append, List.length_map, List.length_take]; omega
          generalize (ss.take n).map PyData.str ++ ac = fs at tp tl
          have fin : ∀ (b k : Int) (c1 : List PyData), c1.length ≤ M.toNat → (∀ x ∈ c1, PW x) → a2 ≤ b → b ≤ a2 + 2 → 0 ≤ k → ∃ (ws : List Str) (a' g' : Int), PyData.tuple c1 = .tuple (ws.map .str) ∧ ([pen L b k] : List PyData) = [pen L a' g'] ∧ (ws.length : Int) ≤ M ∧ Ok ws ∧ a ≤ a' ∧ a' ≤ a + 95 ∧ 0 ≤ g' := fun b k c1 cl cp y1 y2 y3 => by
            obtain ⟨ws, rfl, hw⟩ := words_of cp
            rw [List.length_map] at cl
            exact ⟨ws, b, k, rfl, rfl, by omega, hw, by omega, by omega, y3⟩
          refine Wp.sel (fun w4 => ?_) fun w4 => ?_
          · wtm_at "go"
            refine Wp.sel (fun w5 => ?_) fun w5 => ?_
            · have fl : 1 ≤ fs.length := by
                cases fs with
                | nil => cases w5
                | cons f fs => simp
              wtm_at "go"
              wtm_at "pk"
              intro v6 a6 g6 p6 q6 l6 u6 z6
              wtm_at "go"
              refine Wp.at (by omega) (by omega) fun y hy => ?_
              wtm_at "go"
              wtm_at "pk"
              intro v7 a7 g7 p7 q7 l7 u7 z7
              wtm_at "go"
              rw [setC_ok (by omega) (by omega)]
              wtm_at "go"
              exact fin a7 g7 _ (by rw [List.length_set]; exact tl) (pw_set tp (pw_map hv y hy)) (by omega) (by omega) z7
            · wtm_at "go"
              exact fin a2 g2 _ tl tp (by omega) (by omega) b3
          · wtm_at "go"
            refine Wp.selF w4 ?_
            wtm_at "go"
            exact fin a2 g2 _ tl tp (by omega) (by omega) b3
end K44
end
section
open PySem Di
local macro_rules | `(tactic| wtm_at "st") => `(tactic| simp -dsimp only [↓w_c, ↓w_v, ↓w_gc, ↓w_kdx, ↓w_bop, ↓w_rep, ↓w_neg, ↓w_cmp, ↓w_chn, ↓w_isn, ↓w_and, ↓w_or, ↓w_not, ↓w_ite, ↓w_tup, ↓w_lst, ↓w_dic0, ↓w_call, ↓w_blt, ↓w_rng, ↓w_isi, ↓w_ix, ↓w_sl, ↓w_rev, revD, ↓w_lc, ↓w_app, ↓w_ext, ↓w_pop, ↓w_cap_d, ↓w_cap_f, ↓w_cap_o, capS, ↓w_snil, ↓w_scons, ↓w_sstar, ↓w_vnil, ↓w_vcons, ↓w_mnil, ↓w_mf, ↓w_mt, ↓w_ono, ↓w_oe, ↓w_cno, ↓w_ce, ↓w_ie, ↓w_i1, ↓w_i2, ↓w_izip, ↓w_iez, ↓w_irvr, ↓w_srt, ↓w_srd, ↓w_lns, ↓w_popi, ↓w_jn, ↓w_sfi, ↓w_ins, ↓w_ebad, ↓w_sbad, ↓w_ien, txV, lstD, ↓w_dst, ownK, kOf, ezD, zipD, ↓w_asgn, ↓w_asgt, ↓w_set2, ↓w_aug, ↓w_six, ↓w_swp, ↓w_par, ↓w_exp, ↓w_ret, ↓w_retn, ↓w_ife, ↓w_for, ↓w_whl, ↓w_brk, ↓w_cnt, ↓w_pas, ↓w_nil, ↓w_cons, ↓nxt_nx, ↓nxt_rt, ↓nxt_bk, ↓nxt_ct, ↓w_asgV_d, ↓w_asgV_f, ↓w_asgV_o, ↓w_tst, ↓wp_ok, wp_ok, wp_ex, ↓wp_some, wp_some, ↓wp_chkt, wp_chkt, wp_selt, wp_self, ↓wp_bind, lift_if, lift_map, vV_sh, vV_ow, vV_rf, isB, isnD, fL, seqD, oI, shI, tup2, ↓slot_z, ↓slot_s, res, Sl.data, Sl.own, ↓copD_eq, ↓copD_ne, cmpS, cmpI, cmp_l00, cmp_t00, copD, bopD, ixD, slD, opI, at0, at1, at2, at3, at4, set3_0, set3_1, set3_2, truD, truOk, mkV, asgT, asgL, ↓setN_s, setN_zu, setN_zs, setN_zo, ↓setO_z, ↓setO_s, ownL, ↓chg_s, chg_zo, chg_zr, retV, outsE, mapM0, ↓mapM1, ↓mapM2, ↓mapM3, bltD, isiD, Es.len, Ar.slots, nodup, datas, Ar.data, puts, itD, ↓wipe1s, ↓wipe2s, wipe0, shn_sn, shn_sh, shn_un, keepE_nr, keepE_sn, setN_nr, setN_sn, Tg.slots, keepE_nil, keepE_sh, keepE_un, keepE_ow, keepE_rf, augD, initE, rgI, List.set_cons_zero, List.set_cons_succ, List.replicate_succ, List.replicate_zero, ln0, ln1, ln2, ln3, ln4, ln5, ln6, ln7, ln8, ln9, ln10, ln11, ln12, ln13, ln14, ln15, ln16, Option.map, Bool.false_or, Bool.or_false, Bool.true_or, Bool.or_true, Bool.false_and, Bool.true_and, Bool.and_false, Bool.and_true, true_or, or_true, decide_true, decide_false, Bool.false_eq_true, and_self, and_true, true_and, Bool.not_true, Bool.not_false, Bool.and_self, Bool.not_not, List.getElem?_cons_zero, List.getElem?_cons_succ, List.take_succ_cons, List.take_zero, List.drop_succ_cons, List.drop_zero, List.nil_append, List.append_nil, List.cons_append, List.contains_nil, filter_ff, eqv_tnil', isE_nil, isE_cons, eqvI, eqvS, eqv_nil, List.map_cons, List.map_nil, es_pp, es_pd, es_ps, es_dp, es_dd, es_ds, es_sp, es_sd, es_ss, ite_tt, ite_ff, ↓reduceIte, Prod.fst, Prod.snd, K11.md_law_pen, K88.md_law_draw, K88.md_law_values, K88.md_law_stack, K88.md_law_target, K88.md_law_reach, K88.md_depth_beside, K88.md_common_prefix, K88.md_obstacle, K88.md_decide_beside, K44.md_decide_kw_reach, K44.md_reaches_kw_reach, K44.md_helpful_pushes_kw_reach, K44.md_law_is_reached, K44.md_law, eqv_scr_nil, cmp_nil, wipe3s])
local macro_rules | `(tactic| wtm_at "ck") => `(tactic| with_reducible refine Wp.chkd (by first | assumption | omega | (have hsl := slE; (try simp only [List.length_cons, List.length_nil, List.length_append, List.length_map, List.length_replicate, List.length_dropLast, List.length_set, List.length_take, List.length_drop, List.length_reverse]); omega)) ?_)
local macro_rules | `(tactic| wtm_at "pk") => `(tactic| with_reducible refine Wp.draw (K11.pick_run _ _ _ _ (by omega) (by omega) (by omega) (by omega) (by omega)) ?_)
local macro_rules | `(tactic| wtm_at "rg") => `(tactic| with_reducible refine Wp.lift (rg62_ok (by omega)) ?_)
local macro_rules | `(tactic| wtm_at "al") => `(tactic| ((repeat (refine all_cons ⟨_, rfl, by omega, by omega⟩ ?_)); exact all_nil))
local macro_rules | `(tactic| wtm_at "go") => `(tactic| repeat (first | wtm_at "ck" | wtm_at "st"))
local macro_rules | `(tactic| wtm_at "sl") => `(tactic| (with_reducible apply Wp.sel) <;> intro hsel)
local macro_rules | `(tactic| wtm_at "br") => `(tactic| repeat' (first | wtm_at "ck" | (with_reducible refine Wp.selT (by assumption) ?_) | (with_reducible refine Wp.selF (by assumption) ?_) | wtm_at "sl" | wtm_at "st"))
local macro_rules | `(tactic| wtm_at "bd") => `(tactic| repeat' (first | wtm_at "ck" | (with_reducible refine Wp.selp (by omega) ?_) | (with_reducible refine Wp.seln (by omega) ?_) | ((with_reducible apply Wp.seld) <;> intro hsel) | wtm_at "st"))
namespace K44
open PySem Di Wd K88
theorem decide_run (ss ts : List Str) (K : Int) (k : Nat) (ek : K = k) (hs : ss.length ≤ 1000) (ht : ts.length ≤ 50) (hk : 1 ≤ k) :
    Sp (f_decide_kw_reach.run [tS ss, tS ts, .int K]) (fun fr d o => fr = false ∧ d = dec ss ts [] k ∧ o = []) (fun _ _ => False) := by
  refine sp_run (n := 3) (md := [false, false, false]) (b := ir_decide) (tb := _) (ds := [tS ss, tS ts, .int K]) rfl ?_
  delta ir_decide
  wtm_at "go"
  refine Wp.calle (Sp.eq (beside_run ss ts [] K k ek hs ht (Nat.zero_le _) hk)) ?_
  wtm_at "go"
theorem reaches_run (ss ts : List Str) (K : Int) (k : Nat) (ek : K = k) (hs : ss.length ≤ 1000) (ht : ts.length ≤ 40) (hk : 1 ≤ k) (ot : Ok ts) :
    Sp (f_reaches_kw_reach.run [tS ss, tS ts, .int K]) (fun fr d o => fr = false ∧ d = .bool (rch (dec ss ts [] k)) ∧ o = []) (fun _ _ => False) := by
  refine sp_run (n := 3) (md := [false, false, false]) (b := ir_reaches) (tb := _) (ds := [tS ss, tS ts, .int K]) rfl ?_
  delta ir_reaches
  wtm_at "go"
  refine Wp.calle (Sp.eq (decide_run ss ts K k ek hs (by omega) hk)) ?_
  obtain ⟨s, b, e, g⟩ := dec_form (ss := ss) (cs := []) (k := k) ot ht
  rw [e]
  wtm_at "go"
  rw [eqv_ss]
  rfl
end K44
end
section
open PySem Di
local macro_rules | `(tactic| wtm_at "st") => `(tactic| simp -dsimp only [↓w_c, ↓w_v, ↓w_gc, ↓w_kdx, ↓w_bop, ↓w_rep, ↓w_neg, ↓w_cmp, ↓w_chn, ↓w_isn, ↓w_and, ↓w_or, ↓w_not, ↓w_ite, ↓w_tup, ↓w_lst, ↓w_dic0, ↓w_call, ↓w_blt, ↓w_rng, ↓w_isi, ↓w_ix, ↓w_sl, ↓w_rev, revD, ↓w_lc, ↓w_app, ↓w_ext, ↓w_pop, ↓w_cap_d, ↓w_cap_f, ↓w_cap_o, capS, ↓w_snil, ↓w_scons, ↓w_sstar, ↓w_vnil, ↓w_vcons, ↓w_mnil, ↓w_mf, ↓w_mt, ↓w_ono, ↓w_oe, ↓w_cno, ↓w_ce, ↓w_ie, ↓w_i1, ↓w_i2, ↓w_izip, ↓w_iez, ↓w_irvr, ↓w_srt, ↓w_srd, ↓w_lns, ↓w_popi, ↓w_jn, ↓w_sfi, ↓w_ins, ↓w_ebad, ↓w_sbad, ↓w_ien, txV, lstD, ↓w_dst, ownK, kOf, ezD, zipD, ↓w_asgn, ↓w_asgt, ↓w_set2, ↓w_aug, ↓w_six, ↓w_swp, ↓w_par, ↓w_exp, ↓w_ret, ↓w_retn, ↓w_ife, ↓w_for, ↓w_whl, ↓w_brk, ↓w_cnt, ↓w_pas, ↓w_nil, ↓w_cons, ↓nxt_nx, ↓nxt_rt, ↓nxt_bk, ↓nxt_ct, ↓w_asgV_d, ↓w_asgV_f, ↓w_asgV_o, ↓w_tst, ↓wp_ok, wp_ok, wp_ex, ↓wp_some, wp_some, ↓wp_chkt, wp_chkt, wp_selt, wp_self, ↓wp_bind, lift_if, lift_map, vV_sh, vV_ow, vV_rf, isB, isnD, fL, seqD, oI, shI, tup2, ↓slot_z, ↓slot_s, res, Sl.data, Sl.own, ↓copD_eq, ↓copD_ne, cmpS, cmpI, cmp_l00, cmp_t00, copD, bopD, ixD, slD, opI, at0, at1, at2, at3, at4, set3_0, set3_1, set3_2, truD, truOk, mkV, asgT, asgL, ↓setN_s, setN_zu, setN_zs, setN_zo, ↓setO_z, ↓setO_s, ownL, ↓chg_s, chg_zo, chg_zr, retV, outsE, mapM0, ↓mapM1, ↓mapM2, ↓mapM3, bltD, isiD, Es.len, Ar.slots, nodup, datas, Ar.data, puts, itD, ↓wipe1s, ↓wipe2s, wipe0, shn_sn, shn_sh, shn_un, keepE_nr, keepE_sn, setN_nr, setN_sn, Tg.slots, keepE_nil, keepE_sh, keepE_un, keepE_ow, keepE_rf, augD, initE, rgI, List.set_cons_zero, List.set_cons_succ, List.replicate_succ, List.replicate_zero, ln0, ln1, ln2, ln3, ln4, ln5, ln6, ln7, ln8, ln9, ln10, ln11, ln12, ln13, ln14, ln15, ln16, Option.map, Bool.false_or, Bool.or_false, Bool.true_or, Bool.or_true, Bool.false_and, Bool.true_and, Bool.and_false, Bool.and_true, true_or, or_true, decide_true, decide_false, Bool.false_eq_true, and_self, and_true, true_and, Bool.not_true, Bool.not_false, Bool.and_self, Bool.not_not, List.getElem?_cons_zero, List.getElem?_cons_succ, List.take_succ_cons, List.take_zero, List.drop_succ_cons, List.drop_zero, List.nil_append, List.append_nil, List.cons_append, List.contains_nil, filter_ff, eqv_tnil', isE_nil, isE_cons, eqvI, eqvS, eqv_nil, List.map_cons, List.map_nil, es_pp, es_pd, es_ps, es_dp, es_dd, es_ds, es_sp, es_sd, es_ss, ite_tt, ite_ff, ↓reduceIte, Prod.fst, Prod.snd, K11.md_law_pen, K88.md_law_draw, K88.md_law_values, K88.md_law_stack, K88.md_law_target, K88.md_law_reach, K88.md_depth_beside, K88.md_common_prefix, K88.md_obstacle, K88.md_decide_beside, K44.md_decide_kw_reach, K44.md_reaches_kw_reach, K44.md_helpful_pushes_kw_reach, K44.md_law_is_reached, K44.md_law, eqv_scr_nil, cmp_nil, wipe3s])
local macro_rules | `(tactic| wtm_at "ck") => `(tactic| with_reducible refine Wp.chkd (by first | assumption | omega | (have hsl := slE; (try simp only [List.length_cons, List.length_nil, List.length_append, List.length_map, List.length_replicate, List.length_dropLast, List.length_set, List.length_take, List.length_drop, List.length_reverse]); omega)) ?_)
local macro_rules | `(tactic| wtm_at "pk") => `(tactic| with_reducible refine Wp.draw (K11.pick_run _ _ _ _ (by omega) (by omega) (by omega) (by omega) (by omega)) ?_)
local macro_rules | `(tactic| wtm_at "rg") => `(tactic| with_reducible refine Wp.lift (rg62_ok (by omega)) ?_)
local macro_rules | `(tactic| wtm_at "al") => `(tactic| ((repeat (refine all_cons ⟨_, rfl, by omega, by omega⟩ ?_)); exact all_nil))
local macro_rules | `(tactic| wtm_at "go") => `(tactic| repeat (first | wtm_at "ck" | wtm_at "st"))
local macro_rules | `(tactic| wtm_at "sl") => `(tactic| (with_reducible apply Wp.sel) <;> intro hsel)
local macro_rules | `(tactic| wtm_at "br") => `(tactic| repeat' (first | wtm_at "ck" | (with_reducible refine Wp.selT (by assumption) ?_) | (with_reducible refine Wp.selF (by assumption) ?_) | wtm_at "sl" | wtm_at "st"))
local macro_rules | `(tactic| wtm_at "bd") => `(tactic| repeat' (first | wtm_at "ck" | (with_reducible refine Wp.selp (by omega) ?_) | (with_reducible refine Wp.seln (by omega) ?_) | ((with_reducible apply Wp.seld) <;> intro hsel) | wtm_at "st"))
namespace K44
open PySem Di Wd K88
theorem bare_nilr {ws : List Str} : srtS (SS.once ws) = bare ws [] := by
  have h := bare_eq (ws := ws) (cs := [])
  have e : (ws.filter fun z => decide (z ∉ ([] : List Str))) = ws := List.filter_eq_self.mpr fun z _ => by simp
  rw [e] at h
  exact h
theorem srt_tS {ws : List Str} (h : ws.length ≤ 40) : srtD (.tuple (ws.map .str)) = some ((bare ws []).map .str) := by
  have ol := SS.once_len ws
  show ((strsL _).bind fun zs => if zs.length + 1 < 4096 ∧ (SS.once zs).length < 64 then some ((srtS (SS.once zs)).map PyData.str) else none) = _
  rw [strs_tup]
  show (if _ then _ else _) = _
  rw [if_pos ⟨by omega, by omega⟩, bare_nilr]
def pH (ss ts : List Str) (k : Nat) : PyData → Bool
  | .str w => rch (dec (ss ++ [w]) ts [] k)
  | _ => false
def help (ss ts : List Str) (k : Nat) : List Str := (bare ts []).filter fun w => rch (dec (ss ++ [w]) ts [] k)
theorem help_eq {ss ts : List Str} {k : Nat} (ws : List Str) : (ws.map PyData.str).filter (pH ss ts k) = (ws.filter fun w => rch (dec (ss ++ [w]) ts [] k)).map .str := by
  rw [List.filter_map]
  rfl
theorem bare_len {ws : List Str} : (bare ws []).length ≤ ws.length := List.Nodup.length_le_of_subset bare_nodup fun x hx => (mem_bare.mp hx).1
theorem helpful_run (ss ts : List Str) (K : Int) (k : Nat) (ek : K = k) (hs : ss.length ≤ 900) (ht : ts.length ≤ 40) (hk : 1 ≤ k) (ot : Ok ts) :
    Sp (f_helpful_pushes_kw_reach.run [tS ss, tS ts, .int K]) (fun fr d o => fr = true ∧ d = .list ((help ss ts k).map .str) ∧ o = []) (fun _ _ => False) := by
  refine sp_run (n := 4) (md := [false, false, false]) (b := ir_helpful_pushes) (tb := _) (ds := [tS ss, tS ts, .int K]) rfl ?_
  delta ir_helpful_pushes
  have sl := slE
  have bl := bare_len (ws := ts)
  unfold tS
  wtm_at "go"
  refine Wp.lift (srt_tS ht) ?_
  wtm_at "go"
  refine Wp.lcF (pH ss ts k) (fun x => x) (fun x hx => ?_) (by rw [List.length_map]; omega) ?_
  · obtain ⟨w, hw, rfl⟩ := List.mem_map.mp hx
    wtm_at "go"
    rw [show ss.map PyData.str ++ [PyData.str w] = (ss ++ [w]).map .str by rw [List.map_append]; rfl]
    refine Wp.calle (Sp.eq (reaches_run (ss ++ [w]) ts K k ek (by rw [List.length_append, List.length_singleton]; omega) ht hk ot)) ?_
    wtm_at "go"
    refine ⟨rfl, ?_⟩
    refine Wp.sel (fun h3 => ?_) fun h3 => ?_
    · wtm_at "go"
      try exact fun _ => trivial
    · wtm_at "go"
      intro h
      have h : rch (dec (ss ++ [w]) ts [] k) = true := h
      rw [h3] at h
      cases h
  · wtm_at "go"
    rw [map_id', help_eq]
    rfl
end K44
end
section
open PySem Di
local macro_rules | `(tactic| wtm_at "st") => `(tactic| simp -dsimp only [↓w_c, ↓w_v, ↓w_gc, ↓w_kdx, ↓w_bop, ↓w_rep, ↓w_neg, ↓w_cmp, ↓w_chn, ↓w_isn, ↓w_and, ↓w_or, ↓w_not, ↓w_ite, ↓w_tup, ↓w_lst, ↓w_dic0, ↓w_call, ↓w_blt, ↓w_rng, ↓w_isi, ↓w_ix, ↓w_sl, ↓w_rev, revD, ↓w_lc, ↓w_app, ↓w_ext, ↓w_pop, ↓w_cap_d, ↓w_cap_f, ↓w_cap_o, capS, ↓w_snil, ↓w_scons, ↓w_sstar, ↓w_vnil, ↓w_vcons, ↓w_mnil, ↓w_mf, ↓w_mt, ↓w_ono, ↓w_oe, ↓w_cno, ↓w_ce, ↓w_ie, ↓w_i1, ↓w_i2, ↓w_izip, ↓w_iez, ↓w_irvr, ↓w_srt, ↓w_srd, ↓w_lns, ↓w_popi, ↓w_jn, ↓w_sfi, ↓w_ins, ↓w_ebad, ↓w_sbad, ↓w_ien, txV, lstD, ↓w_dst, ownK, kOf, ezD, zipD, ↓w_asgn, ↓w_asgt, ↓w_set2, ↓w_aug, ↓w_six, ↓w_swp, ↓w_par, ↓w_exp, ↓w_ret, ↓w_retn, ↓w_ife, ↓w_for, ↓w_whl, ↓w_brk, ↓w_cnt, ↓w_pas, ↓w_nil, ↓w_cons, ↓nxt_nx, ↓nxt_rt, ↓nxt_bk, ↓nxt_ct, ↓w_asgV_d, ↓w_asgV_f, ↓w_asgV_o, ↓w_tst, ↓wp_ok, wp_ok, wp_ex, ↓wp_some, wp_some, ↓wp_chkt, wp_chkt, wp_selt, wp_self, ↓wp_bind, lift_if, lift_map, vV_sh, vV_ow, vV_rf, isB, isnD, fL, seqD, oI, shI, tup2, ↓slot_z, ↓slot_s, res, Sl.data, Sl.own, ↓copD_eq, ↓copD_ne, cmpS, cmpI, cmp_l00, cmp_t00, copD, bopD, ixD, slD, opI, at0, at1, at2, at3, at4, set3_0, set3_1, set3_2, truD, truOk, mkV, asgT, asgL, ↓setN_s, setN_zu, setN_zs, setN_zo, ↓setO_z, ↓setO_s, ownL, ↓chg_s, chg_zo, chg_zr, retV, outsE, mapM0, ↓mapM1, ↓mapM2, ↓mapM3, bltD, isiD, Es.len, Ar.slots, nodup, datas, Ar.data, puts, itD, ↓wipe1s, ↓wipe2s, wipe0, shn_sn, shn_sh, shn_un, keepE_nr, keepE_sn, setN_nr, setN_sn, Tg.slots, keepE_nil, keepE_sh, keepE_un, keepE_ow, keepE_rf, augD, initE, rgI, List.set_cons_zero, List.set_cons_succ, List.replicate_succ, List.replicate_zero, ln0, ln1, ln2, ln3, ln4, ln5, ln6, ln7, ln8, ln9, ln10, ln11, ln12, ln13, ln14, ln15, ln16, Option.map, Bool.false_or, Bool.or_false, Bool.true_or, Bool.or_true, Bool.false_and, Bool.true_and, Bool.and_false, Bool.and_true, true_or, or_true, decide_true, decide_false, Bool.false_eq_true, and_self, and_true, true_and, Bool.not_true, Bool.not_false, Bool.and_self, Bool.not_not, List.getElem?_cons_zero, List.getElem?_cons_succ, List.take_succ_cons, List.take_zero, List.drop_succ_cons, List.drop_zero, List.nil_append, List.append_nil, List.cons_append, List.contains_nil, filter_ff, eqv_tnil', isE_nil, isE_cons, eqvI, eqvS, eqv_nil, List.map_cons, List.map_nil, es_pp, es_pd, es_ps, es_dp, es_dd, es_ds, es_sp, es_sd, es_ss, ite_tt, ite_ff, ↓reduceIte, Prod.fst, Prod.snd, K11.md_law_pen, K88.md_law_draw, K88.md_law_values, K88.md_law_stack, K88.md_law_target, K88.md_law_reach, K88.md_depth_beside, K88.md_common_prefix, K88.md_obstacle, K88.md_decide_beside, K44.md_decide_kw_reach, K44.md_reaches_kw_reach, K44.md_helpful_pushes_kw_reach, K44.md_law_is_reached, K44.md_law, eqv_scr_nil, cmp_nil, wipe3s])
local macro_rules | `(tactic| wtm_at "ck") => `(tactic| with_reducible refine Wp.chkd (by first | assumption | omega | (have hsl := slE; (try simp only [List.length_cons, List.length_nil, List.length_append, List.length_map, List.length_replicate, List.length_dropLast, List.length_set, List.length_take, List.length_drop, List.length_reverse]); omega)) ?_)
local macro_rules | `(tactic| wtm_at "pk") => `(tactic| with_reducible refine Wp.draw (K11.pick_run _ _ _ _ (by omega) (by omega) (by omega) (by omega) (by omega)) ?_)
local macro_rules | `(tactic| wtm_at "rg") => `(tactic| with_reducible refine Wp.lift (rg62_ok (by omega)) ?_)
local macro_rules | `(tactic| wtm_at "al") => `(tactic| ((repeat (refine all_cons ⟨_, rfl, by omega, by omega⟩ ?_)); exact all_nil))
local macro_rules | `(tactic| wtm_at "go") => `(tactic| repeat (first | wtm_at "ck" | wtm_at "st"))
local macro_rules | `(tactic| wtm_at "sl") => `(tactic| (with_reducible apply Wp.sel) <;> intro hsel)
local macro_rules | `(tactic| wtm_at "br") => `(tactic| repeat' (first | wtm_at "ck" | (with_reducible refine Wp.selT (by assumption) ?_) | (with_reducible refine Wp.selF (by assumption) ?_) | wtm_at "sl" | wtm_at "st"))
local macro_rules | `(tactic| wtm_at "bd") => `(tactic| repeat' (first | wtm_at "ck" | (with_reducible refine Wp.selp (by omega) ?_) | (with_reducible refine Wp.seln (by omega) ?_) | ((with_reducible apply Wp.seld) <;> intro hsel) | wtm_at "st"))
namespace K44
open PySem Di Wd K88
theorem eqv_tS : ∀ xs ys : List Str, PyData.eqv (.tuple (xs.map .str)) (.tuple (ys.map .str)) = decide (xs = ys)
  | [], [] => rfl
  | [], _ :: _ => rfl
  | _ :: _, [] => rfl
  | x :: xs, y :: ys => by
    have ih := eqv_tS xs ys
    show (PyData.eqv (.str x) (.str y) && PyData.eqv (.tuple (xs.map .str)) (.tuple (ys.map .str))) = _
    rw [ih, eqv_ss, Bool.eq_iff_iff, Bool.and_eq_true, decide_eq_true_eq, decide_eq_true_eq, decide_eq_true_eq, List.cons.injEq]
theorem cp_take {ss ts : List Str} {d : Nat} (hd : d ≤ ts.length) : cp ss (ts.take d) < d ↔ ss.take d ≠ ts.take d := by
  have tl : (ts.take d).length = d := by rw [List.length_take]; omega
  constructor
  · intro h e
    have u := cp_unlike ss (ts.take d) (by rw [tl]; exact h)
    rw [← e, List.getElem?_take, if_pos (by rw [e]; exact h)] at u
    exact u rfl
  · intro h
    by_cases c : cp ss (ts.take d) < d
    · exact c
    · exfalso
      apply h
      apply List.ext_getElem?
      intro i
      by_cases hi : i < d
      · have := cp_alike ss (ts.take d) i (by omega)
        rw [List.getElem?_take, if_pos hi, this]
      · rw [List.getElem?_take, List.getElem?_take, if_neg hi, if_neg hi]
theorem set_cnt {ws : List Str} : (SS.once ws).length = cnt ws [] := by
  unfold cnt
  rw [← bare_nilr, len_srt]
theorem lns_tS {ws : List Str} (h : ws.length ≤ 1000) : lnsD (.tuple (ws.map .str)) = some (cnt ws [] : Int) := by
  show ((strsL (ws.map .str)).bind fun zs => if zs.length + 1 < 4096 then some ((SS.once zs).length : Int) else none) = _
  rw [strs_tup]
  show (if _ then _ else _) = _
  rw [if_pos (by omega), set_cnt]
theorem is_reached_run (ss ts : List Str) (K : Int) (k : Nat) (ek : K = k) (hs : ss.length ≤ 40) (ht : ts.length ≤ 40) (hk : 1 ≤ k) (os : Ok ss) (ot : Ok ts) :
    Sp (f_law_is_reached.run [tS ss, tS ts, .int K]) (fun fr d o => fr = false ∧ d = .bool (rch (dec ss ts [] k)) ∧ o = []) (fun _ _ => False) := by
  refine sp_run (n := 6) (md := [false, false, false]) (b := ir_law_is_reached) (tb := _) (ds := [tS ss, tS ts, .int K]) rfl ?_
  delta ir_law_is_reached
  have sl := slE
  unfold tS
  wtm_at "go"
  refine Wp.whl (fun n r => ∃ (d : Nat), r = [.sh (.tuple (ss.map .str)), .sh (.tuple (ts.map .str)), .sh (.int K), .sh (.int (d : Int)), .un, .un] ∧ d + n = dep k [] ts) ?step (k := 1000000) (n := dep k [] ts) ⟨0, rfl, Nat.zero_add _⟩ ?lt
  case lt => have := dep_le (k := k) (cs := []) ts; omega
  rintro n r ⟨d, rfl, hn⟩
  have e1 : (d : Int) + 1 = ((d + 1 : Nat) : Int) := by omega
  wtm_at "go"
  rw [e1, cut_from]
  wtm_at "go"
  refine Wp.lift (lns_tS (by rw [List.length_drop]; omega)) ?_
  wtm_at "go"
  refine Wp.sel (fun h1 => ?_) fun h1 => ?_
  · have h1 := of_decide_eq_true h1
    have := dep_step (k := k) (cs := []) (ws := ts) (d := d) (by omega) (by omega)
    wtm_at "go"
    exact ⟨n - 1, by omega, d + 1, rfl, by omega⟩
  · have h1 := of_decide_eq_false h1
    have ed := dep_done (k := k) (cs := []) (ws := ts) (d := d) (by omega) (by omega)
    have dl := dep_le (k := k) (cs := []) ts
    have dd : dec ss ts [] k = match obs ss (ts.take (dep k [] ts)) (bare (ts.drop (dep k [] ts)) []) k with
      | .tuple [.none, _] => .tuple [.str "reached", .int (dep k [] ts : Nat)]
      | .tuple [a, b] => .tuple [.str "blocked", .tuple [.int (dep k [] ts : Nat), if 0 < dep k [] ts then tS (bare (ts.drop (dep k [] ts)) []) else .tuple [], a, b]]
      | d => d := rfl
    rw [← ed] at dl
    rw [dd, ← ed]
    clear dd
    have st := srt_tS (ws := ts.drop d) (by rw [List.length_drop]; omega)
    have n40 : (bare (ts.drop d) []).length ≤ 40 := by
      have := bare_len (ws := ts.drop d)
      rw [List.length_drop] at this
      omega
    generalize bare (ts.drop d) [] = ns at st n40 ⊢
    have ct := cp_take (ss := ss) dl
    have gl : (ts.take d).length = d := by rw [List.length_take]; omega
    have g1 : SeqAt.shaped (.tuple ((ss.take d).map .str)) = true := (tS_gd (ws := ss.take d) (fun w hw => os w (List.mem_of_mem_take hw)) (by rw [List.length_take]; omega)).shaped (by omega)
    have g2 : SeqAt.shaped (.tuple ((ts.take d).map .str)) = true := (tS_gd (ws := ts.take d) (fun w hw => ot w (List.mem_of_mem_take hw)) (by omega)).shaped (by omega)
    wtm_at "go"
    rw [cut_from]
    wtm_at "go"
    refine Wp.lift st ?_
    wtm_at "go"
    rw [cut_to, cut_to]
    wtm_at "go"
    refine Wp.chkd (cmp_of g1 g2) ?_
    rw [eqv_tS]
    wtm_at "go"
    have nlen : (ns.map PyData.str).length = ns.length := by simp
    have fe : ∀ z, z ∈ ns.filter (fun z => decide (z ∉ ss.drop d)) ↔ (z ∈ ns ∧ z ∉ ss.drop d) := fun z => by simp
    refine Wp.sel (fun h2 => ?_) fun h2 => ?_
    · have g : cp ss (ts.take d) < d := ct.mpr (by simpa using h2)
      wtm_at "go"
      refine Wp.selT h2 ?_
      wtm_at "go"
      unfold obs
      rw [if_pos (by rw [gl]; exact g)]
      rfl
    · have g : ¬cp ss (ts.take d) < d := fun c => ct.mp c (by simpa using h2)
      have ob : obs ss (ts.take d) ns k = match ns.filter (fun z => decide (z ∉ ss.drop d)) with
          | a :: _ => .tuple [.str "missing", .str a]
          | [] => if k < ns.length ∧ offB ss (ts.take d) ns = true then .tuple [.str "edge", tS ns] else .tuple [.none, .none] := by
        unfold obs
        rw [gl, if_neg g]
        try rfl
      rw [ob]
      clear ob
      wtm_at "go"
      refine Wp.lcF (fun x => !inD x ((ss.drop d).map .str)) (fun x => x) (fun x hx => ?_) (by rw [nlen]; omega) ?_
      · obtain ⟨w, hw, rfl⟩ := List.mem_map.mp hx
        wtm_at "go"
        rw [cut_from]
        wtm_at "go"
        refine Wp.chkd mem_strs ?_
        wtm_at "go"
        refine Wp.sel (fun h3 => ?_) fun h3 => ?_
        · wtm_at "go"
          try exact fun _ => trivial
        · wtm_at "go"
          intro h
          rw [h3] at h
          cases h
      · rw [map_id', filt_strs]
        wtm_at "go"
        cases q : ns.filter (fun z => decide (z ∉ ss.drop d)) with
        | cons a as =>
          rw [List.map_cons]
          wtm_at "go"
          rfl
        | nil =>
          rw [q] at fe
          rw [List.map_nil]
          wtm_at "go"
          rw [nlen]
          refine Wp.sel (fun h4 => ?_) fun h4 => ?_
          · have h5 := of_decide_eq_true h4
            rw [h4, if_neg (by omega)]
            wtm_at "go"
            rfl
          · have h4 := of_decide_eq_false h4
            have kn : k < ns.length := by omega
            obtain ⟨w, hw⟩ : ∃ w, ss[d]? = some w := by
              cases ns with
              | nil => simp at kn
              | cons z ns =>
                have hz : z ∈ ss.drop d := by
                  by_cases c : z ∈ ss.drop d
                  · exact c
                  · have := (fe z).mpr ⟨List.mem_cons_self, c⟩
                    cases this
                have := List.length_pos_of_mem hz
                rw [List.length_drop] at this
                exact ⟨_, List.getElem?_eq_getElem (by omega)⟩
            have ob2 : offB ss (ts.take d) ns = decide (w ∉ ns) := by unfold offB; rw [gl, hw]
            rw [ob2]
            wtm_at "go"
            refine Wp.lift (at_strs hw) ?_
            wtm_at "go"
            refine Wp.chkd mem_strs ?_
            rw [in_strs]
            wtm_at "go"
            by_cases c : w ∈ ns
            · rw [if_neg (by intro x; simpa [c] using x.2), decide_eq_true c]
              rfl
            · rw [if_pos ⟨kn, by simpa using c⟩, decide_eq_false c]
              rfl
end K44
end
section
open PySem Di
local macro_rules | `(tactic| wtm_at "st") => `(tactic| simp -dsimp only [↓w_c, ↓w_v, ↓w_gc, ↓w_kdx, ↓w_bop, ↓w_rep, ↓w_neg, ↓w_cmp, ↓w_chn, ↓w_isn, ↓w_and, ↓w_or, ↓w_not, ↓w_ite, ↓w_tup, ↓w_lst, ↓w_dic0, ↓w_call, ↓w_blt, ↓w_rng, ↓w_isi, ↓w_ix, ↓w_sl, ↓w_rev, revD, ↓w_lc, ↓w_app, ↓w_ext, ↓w_pop, ↓w_cap_d, ↓w_cap_f, ↓w_cap_o, capS, ↓w_snil, ↓w_scons, ↓w_sstar, ↓w_vnil, ↓w_vcons, ↓w_mnil, ↓w_mf, ↓w_mt, ↓w_ono, ↓w_oe, ↓w_cno, ↓w_ce, ↓w_ie, ↓w_i1, ↓w_i2, ↓w_izip, ↓w_iez, ↓w_irvr, ↓w_srt, ↓w_srd, ↓w_lns, ↓w_popi, ↓w_jn, ↓w_sfi, ↓w_ins, ↓w_ebad, ↓w_sbad, ↓w_ien, txV, lstD, ↓w_dst, ownK, kOf, ezD, zipD, ↓w_asgn, ↓w_asgt, ↓w_set2, ↓w_aug, ↓w_six, ↓w_swp, ↓w_par, ↓w_exp, ↓w_ret, ↓w_retn, ↓w_ife, ↓w_for, ↓w_whl, ↓w_brk, ↓w_cnt, ↓w_pas, ↓w_nil, ↓w_cons, ↓nxt_nx, ↓nxt_rt, ↓nxt_bk, ↓nxt_ct, ↓w_asgV_d, ↓w_asgV_f, ↓w_asgV_o, ↓w_tst, ↓wp_ok, wp_ok, wp_ex, ↓wp_some, wp_some, ↓wp_chkt, wp_chkt, wp_selt, wp_self, ↓wp_bind, lift_if, lift_map, vV_sh, vV_ow, vV_rf, isB, isnD, fL, seqD, oI, shI, tup2, ↓slot_z, ↓slot_s, res, Sl.data, Sl.own, ↓copD_eq, ↓copD_ne, cmpS, cmpI, cmp_l00, cmp_t00, copD, bopD, ixD, slD, opI, at0, at1, at2, at3, at4, set3_0, set3_1, set3_2, truD, truOk, mkV, asgT, asgL, ↓setN_s, setN_zu, setN_zs, setN_zo, ↓setO_z, ↓setO_s, ownL, ↓chg_s, chg_zo, chg_zr, retV, outsE, mapM0, ↓mapM1, ↓mapM2, ↓mapM3, bltD, isiD, Es.len, Ar.slots, nodup, datas, Ar.data, puts, itD, ↓wipe1s, ↓wipe2s, wipe0, shn_sn, shn_sh, shn_un, keepE_nr, keepE_sn, setN_nr, setN_sn, Tg.slots, keepE_nil, keepE_sh, keepE_un, keepE_ow, keepE_rf, augD, initE, rgI, List.set_cons_zero, List.set_cons_succ, List.replicate_succ, List.replicate_zero, ln0, ln1, ln2, ln3, ln4, ln5, ln6, ln7, ln8, ln9, ln10, ln11, ln12, ln13, ln14, ln15, ln16, Option.map, Bool.false_or, Bool.or_false, Bool.true_or, Bool.or_true, Bool.false_and, Bool.true_and, Bool.and_false, Bool.and_true, true_or, or_true, decide_true, decide_false, Bool.false_eq_true, and_self, and_true, true_and, Bool.not_true, Bool.not_false, Bool.and_self, Bool.not_not, List.getElem?_cons_zero, List.getElem?_cons_succ, List.take_succ_cons, List.take_zero, List.drop_succ_cons, List.drop_zero, List.nil_append, List.append_nil, List.cons_append, List.contains_nil, filter_ff, eqv_tnil', isE_nil, isE_cons, eqvI, eqvS, eqv_nil, List.map_cons, List.map_nil, es_pp, es_pd, es_ps, es_dp, es_dd, es_ds, es_sp, es_sd, es_ss, ite_tt, ite_ff, ↓reduceIte, Prod.fst, Prod.snd, K11.md_law_pen, K88.md_law_draw, K88.md_law_values, K88.md_law_stack, K88.md_law_target, K88.md_law_reach, K88.md_depth_beside, K88.md_common_prefix, K88.md_obstacle, K88.md_decide_beside, K44.md_decide_kw_reach, K44.md_reaches_kw_reach, K44.md_helpful_pushes_kw_reach, K44.md_law_is_reached, K44.md_law, eqv_scr_nil, cmp_nil, wipe3s])
local macro_rules | `(tactic| wtm_at "ck") => `(tactic| with_reducible refine Wp.chkd (by first | assumption | omega | (have hsl := slE; (try simp only [List.length_cons, List.length_nil, List.length_append, List.length_map, List.length_replicate, List.length_dropLast, List.length_set, List.length_take, List.length_drop, List.length_reverse]); omega)) ?_)
local macro_rules | `(tactic| wtm_at "pk") => `(tactic| with_reducible refine Wp.draw (K11.pick_run _ _ _ _ (by omega) (by omega) (by omega) (by omega) (by omega)) ?_)
local macro_rules | `(tactic| wtm_at "rg") => `(tactic| with_reducible refine Wp.lift (rg62_ok (by omega)) ?_)
local macro_rules | `(tactic| wtm_at "al") => `(tactic| ((repeat (refine all_cons ⟨_, rfl, by omega, by omega⟩ ?_)); exact all_nil))
local macro_rules | `(tactic| wtm_at "go") => `(tactic| repeat (first | wtm_at "ck" | wtm_at "st"))
local macro_rules | `(tactic| wtm_at "sl") => `(tactic| (with_reducible apply Wp.sel) <;> intro hsel)
local macro_rules | `(tactic| wtm_at "br") => `(tactic| repeat' (first | wtm_at "ck" | (with_reducible refine Wp.selT (by assumption) ?_) | (with_reducible refine Wp.selF (by assumption) ?_) | wtm_at "sl" | wtm_at "st"))
local macro_rules | `(tactic| wtm_at "bd") => `(tactic| repeat' (first | wtm_at "ck" | (with_reducible refine Wp.selp (by omega) ?_) | (with_reducible refine Wp.seln (by omega) ?_) | ((with_reducible apply Wp.seld) <;> intro hsel) | wtm_at "st"))
namespace K44
open PySem Di Wd K88
def free (ss gs ns : List Str) (k : Nat) : Prop := ¬cp ss gs < gs.length ∧ (ns.filter fun z => decide (z ∉ ss.drop gs.length)) = [] ∧ ¬(k < ns.length ∧ offB ss gs ns = true)
theorem not_rch {x : PyData} (h : rch (.tuple [.str (Str.ofString "blocked"), x]) = true) : False := by
  have h : decide (Str.ofString "blocked" = Str.ofString "reached") = true := h
  revert h
  decide +kernel
theorem rch_free {ss ts cs : List Str} {k : Nat} : rch (dec ss ts cs k) = true ↔ free ss (ts.take (dep k cs ts)) (bare (ts.drop (dep k cs ts)) cs) k := by
  unfold dec
  generalize dep k cs ts = d
  generalize bare (ts.drop d) cs = ns
  generalize ts.take d = gs
  constructor
  · intro h
    by_cases c : cp ss gs < gs.length
    · have o : obs ss gs ns k = .tuple [.str "ground", .int (cp ss gs : Nat)] := by unfold obs; rw [if_pos c]
      rw [o] at h
      exact (not_rch h).elim
    · refine ⟨c, ?_⟩
      cases q : ns.filter (fun z => decide (z ∉ ss.drop gs.length)) with
      | cons a as =>
        have o : obs ss gs ns k = .tuple [.str "missing", .str a] := by unfold obs; rw [if_neg c, q]
        rw [o] at h
        exact (not_rch h).elim
      | nil =>
        refine ⟨rfl, fun e => ?_⟩
        have o : obs ss gs ns k = .tuple [.str "edge", tS ns] := by
          unfold obs
          rw [if_neg c, q]
          show (if _ then _ else _) = _
          rw [if_pos e]
        rw [o] at h
        exact (not_rch h).elim
  · rintro ⟨h1, h2, h3⟩
    have o : obs ss gs ns k = .tuple [.none, .none] := by
      unfold obs
      rw [if_neg h1, h2]
      show (if _ then _ else _) = _
      rw [if_neg h3]
    rw [o]
    rfl
end K44
end
section
open PySem Di
local macro_rules | `(tactic| wtm_at "st") => `(tactic| simp -dsimp only [↓w_c, ↓w_v, ↓w_gc, ↓w_kdx, ↓w_bop, ↓w_rep, ↓w_neg, ↓w_cmp, ↓w_chn, ↓w_isn, ↓w_and, ↓w_or, ↓w_not, ↓w_ite, ↓w_tup, ↓w_lst, ↓w_dic0, ↓w_call, ↓w_blt, ↓w_rng, ↓w_isi, ↓w_ix, ↓w_sl, ↓w_rev, revD, ↓w_lc, ↓w_app, ↓w_ext, ↓w_pop, ↓w_cap_d, ↓w_cap_f, ↓w_cap_o, capS, ↓w_snil, ↓w_scons, ↓w_sstar, ↓w_vnil, ↓w_vcons, ↓w_mnil, ↓w_mf, ↓w_mt, ↓w_ono, ↓w_oe, ↓w_cno, ↓w_ce, ↓w_ie, ↓w_i1, ↓w_i2, ↓w_izip, ↓w_iez, ↓w_irvr, ↓w_srt, ↓w_srd, ↓w_lns, ↓w_popi, ↓w_jn, ↓w_sfi, ↓w_ins, ↓w_ebad, ↓w_sbad, ↓w_ien, txV, lstD, ↓w_dst, ownK, kOf, ezD, zipD, ↓w_asgn, ↓w_asgt, ↓w_set2, ↓w_aug, ↓w_six, ↓w_swp, ↓w_par, ↓w_exp, ↓w_ret, ↓w_retn, ↓w_ife, ↓w_for, ↓w_whl, ↓w_brk, ↓w_cnt, ↓w_pas, ↓w_nil, ↓w_cons, ↓nxt_nx, ↓nxt_rt, ↓nxt_bk, ↓nxt_ct, ↓w_asgV_d, ↓w_asgV_f, ↓w_asgV_o, ↓w_tst, ↓wp_ok, wp_ok, wp_ex, ↓wp_some, wp_some, ↓wp_chkt, wp_chkt, wp_selt, wp_self, ↓wp_bind, lift_if, lift_map, vV_sh, vV_ow, vV_rf, isB, isnD, fL, seqD, oI, shI, tup2, ↓slot_z, ↓slot_s, res, Sl.data, Sl.own, ↓copD_eq, ↓copD_ne, cmpS, cmpI, cmp_l00, cmp_t00, copD, bopD, ixD, slD, opI, at0, at1, at2, at3, at4, set3_0, set3_1, set3_2, truD, truOk, mkV, asgT, asgL, ↓setN_s, setN_zu, setN_zs, setN_zo, ↓setO_z, ↓setO_s, ownL, ↓chg_s, chg_zo, chg_zr, retV, outsE, mapM0, ↓mapM1, ↓mapM2, ↓mapM3, bltD, isiD, Es.len, Ar.slots, nodup, datas, Ar.data, puts, itD, ↓wipe1s, ↓wipe2s, wipe0, shn_sn, shn_sh, shn_un, keepE_nr, keepE_sn, setN_nr, setN_sn, Tg.slots, keepE_nil, keepE_sh, keepE_un, keepE_ow, keepE_rf, augD, initE, rgI, List.set_cons_zero, List.set_cons_succ, List.replicate_succ, List.replicate_zero, ln0, ln1, ln2, ln3, ln4, ln5, ln6, ln7, ln8, ln9, ln10, ln11, ln12, ln13, ln14, ln15, ln16, Option.map, Bool.false_or, Bool.or_false, Bool.true_or, Bool.or_true, Bool.false_and, Bool.true_and, Bool.and_false, Bool.and_true, true_or, or_true, decide_true, decide_false, Bool.false_eq_true, and_self, and_true, true_and, Bool.not_true, Bool.not_false, Bool.and_self, Bool.not_not, List.getElem?_cons_zero, List.getElem?_cons_succ, List.take_succ_cons, List.take_zero, List.drop_succ_cons, List.drop_zero, List.nil_append, List.append_nil, List.cons_append, List.contains_nil, filter_ff, eqv_tnil', isE_nil, isE_cons, eqvI, eqvS, eqv_nil, List.map_cons, List.map_nil, es_pp, es_pd, es_ps, es_dp, es_dd, es_ds, es_sp, es_sd, es_ss, ite_tt, ite_ff, ↓reduceIte, Prod.fst, Prod.snd, K11.md_law_pen, K88.md_law_draw, K88.md_law_values, K88.md_law_stack, K88.md_law_target, K88.md_law_reach, K88.md_depth_beside, K88.md_common_prefix, K88.md_obstacle, K88.md_decide_beside, K44.md_decide_kw_reach, K44.md_reaches_kw_reach, K44.md_helpful_pushes_kw_reach, K44.md_law_is_reached, K44.md_law, eqv_scr_nil, cmp_nil, wipe3s])
local macro_rules | `(tactic| wtm_at "ck") => `(tactic| with_reducible refine Wp.chkd (by first | assumption | omega | (have hsl := slE; (try simp only [List.length_cons, List.length_nil, List.length_append, List.length_map, List.length_replicate, List.length_dropLast, List.length_set, List.length_take, List.length_drop, List.length_reverse]); omega)) ?_)
local macro_rules | `(tactic| wtm_at "pk") => `(tactic| with_reducible refine Wp.draw (K88.draw_run _ _ _ _ (by omega) (by omega) (by omega) (by omega) (by omega)) ?_)
local macro_rules | `(tactic| wtm_at "rg") => `(tactic| with_reducible refine Wp.lift (rg62_ok (by omega)) ?_)
local macro_rules | `(tactic| wtm_at "al") => `(tactic| ((repeat (refine all_cons ⟨_, rfl, by omega, by omega⟩ ?_)); exact all_nil))
local macro_rules | `(tactic| wtm_at "go") => `(tactic| repeat (first | wtm_at "ck" | wtm_at "st"))
local macro_rules | `(tactic| wtm_at "sl") => `(tactic| (with_reducible apply Wp.sel) <;> intro hsel)
local macro_rules | `(tactic| wtm_at "br") => `(tactic| repeat' (first | wtm_at "ck" | (with_reducible refine Wp.selT (by assumption) ?_) | (with_reducible refine Wp.selF (by assumption) ?_) | wtm_at "sl" | wtm_at "st"))
local macro_rules | `(tactic| wtm_at "bd") => `(tactic| repeat' (first | wtm_at "ck" | (with_reducible refine Wp.selp (by omega) ?_) | (with_reducible refine Wp.seln (by omega) ?_) | ((with_reducible apply Wp.seld) <;> intro hsel) | wtm_at "st"))
namespace K44
open PySem Di Wd K88
theorem cp_app {us : List Str} : ∀ ss gs : List Str, cp ss gs ≤ cp (ss ++ us) gs
  | [], gs => Nat.zero_le _
  | _ :: _, [] => Nat.zero_le _
  | x :: xs, y :: ys => by
    have := cp_app (us := us) xs ys
    rw [List.cons_append, cp_cons, cp_cons]
    split <;> omega
theorem free_push {ss gs ns : List Str} {k : Nat} {w : Str} (h : free ss gs ns k) : free (ss ++ [w]) gs ns k := by
  obtain ⟨h1, h2, h3⟩ := h
  have c := cp_app (us := [w]) ss gs
  refine ⟨by omega, ?_, ?_⟩
  · rw [List.filter_eq_nil_iff] at h2 ⊢
    intro z hz
    have := h2 z hz
    simp only [decide_eq_true_eq, Classical.not_not] at this ⊢
    rw [List.drop_append]
    exact List.mem_append_left _ this
  · rintro ⟨k1, k2⟩
    apply h3
    refine ⟨k1, ?_⟩
    have hd : gs.length < ss.length := by
      cases ns with
      | nil => simp at k1
      | cons z ns =>
        rw [List.filter_eq_nil_iff] at h2
        have := h2 z List.mem_cons_self
        simp only [decide_eq_true_eq, Classical.not_not] at this
        have := List.length_pos_of_mem this
        rw [List.length_drop] at this
        omega
    have e : (ss ++ [w])[gs.length]? = ss[gs.length]? := List.getElem?_append_left hd
    unfold offB at k2 ⊢
    rw [e] at k2
    exact k2
theorem rch_push {ss ts : List Str} {k : Nat} {w : Str} (h : rch (dec ss ts [] k) = true) : rch (dec (ss ++ [w]) ts [] k) = true := rch_free.mpr (free_push (rch_free.mp h))
theorem help_all {ss ts : List Str} {k : Nat} (h : rch (dec ss ts [] k) = true) : help ss ts k = bare ts [] := List.filter_eq_self.mpr fun w _ => rch_push h
theorem lst_gd {ws : List Str} (h : Ok ws) (hl : ws.length ≤ 40) : Gd 1 360 (.list (ws.map .str)) := by
  have := Gd.lst (k := 0) (m := 8) (xs := ws.map .str) fun x hx => by
    obtain ⟨w, hw, rfl⟩ := List.mem_map.mp hx
    exact pool_gd (h w hw)
  rw [List.length_map] at this
  exact this.mono (Nat.le_refl _) (by omega)
theorem help_sub {ss ts : List Str} {k : Nat} (h : Ok ts) : Ok (help ss ts k) := fun w hw => h w (mem_bare.mp (List.mem_filter.mp hw).1).1
theorem help_len {ss ts : List Str} {k : Nat} : (help ss ts k).length ≤ ts.length := Nat.le_trans (List.length_filter_le _ _) bare_len
def wS : List Str := [Str.ofString "a", Str.ofString "b", Str.ofString "c"]
def wT : List Str := [Str.ofString "a", Str.ofString "b", Str.ofString "c", Str.ofString "a"]
theorem last_help : help wS wT 2 = [Str.ofString "a"] := by decide +kernel
theorem last_ok : Ok wT := fun w hw => by
  simp [wT] at hw
  rcases hw with rfl | rfl | rfl | rfl <;> exact pool_gw (by simp [pool])
theorem last_run : Sp (f_helpful_pushes_kw_reach.run [tS wS, tS wT, .int 2]) (fun fr d o => fr = true ∧ d = .list [.str (Str.ofString "a")] ∧ o = []) (fun _ _ => False) := by
  have h := helpful_run wS wT 2 2 rfl (by decide) (by decide) (by decide) last_ok
  rw [last_help] at h
  exact h
end K44
end
section
open PySem Di
local macro_rules | `(tactic| wtm_at "st") => `(tactic| simp -dsimp only [↓w_c, ↓w_v, ↓w_gc, ↓w_kdx, ↓w_bop, ↓w_rep, ↓w_neg, ↓w_cmp, ↓w_chn, ↓w_isn, ↓w_and, ↓w_or, ↓w_not, ↓w_ite, ↓w_tup, ↓w_lst, ↓w_dic0, ↓w_call, ↓w_blt, ↓w_rng, ↓w_isi, ↓w_ix, ↓w_sl, ↓w_rev, revD, ↓w_lc, ↓w_app, ↓w_ext, ↓w_pop, ↓w_cap_d, ↓w_cap_f, ↓w_cap_o, capS, ↓w_snil, ↓w_scons, ↓w_sstar, ↓w_vnil, ↓w_vcons, ↓w_mnil, ↓w_mf, ↓w_mt, ↓w_ono, ↓w_oe, ↓w_cno, ↓w_ce, ↓w_ie, ↓w_i1, ↓w_i2, ↓w_izip, ↓w_iez, ↓w_irvr, ↓w_srt, ↓w_srd, ↓w_lns, ↓w_popi, ↓w_jn, ↓w_sfi, ↓w_ins, ↓w_ebad, ↓w_sbad, ↓w_ien, txV, lstD, ↓w_dst, ownK, kOf, ezD, zipD, ↓w_asgn, ↓w_asgt, ↓w_set2, ↓w_aug, ↓w_six, ↓w_swp, ↓w_par, ↓w_exp, ↓w_ret, ↓w_retn, ↓w_ife, ↓w_for, ↓w_whl, ↓w_brk, ↓w_cnt, ↓w_pas, ↓w_nil, ↓w_cons, ↓nxt_nx, ↓nxt_rt, ↓nxt_bk, ↓nxt_ct, ↓w_asgV_d, ↓w_asgV_f, ↓w_asgV_o, ↓w_tst, ↓wp_ok, wp_ok, wp_ex, ↓wp_some, wp_some, ↓wp_chkt, wp_chkt, wp_selt, wp_self, ↓wp_bind, lift_if, lift_map, vV_sh, vV_ow, vV_rf, isB, isnD, fL, seqD, oI, shI, tup2, ↓slot_z, ↓slot_s, res, Sl.data, Sl.own, ↓copD_eq, ↓copD_ne, cmpS, cmpI, cmp_l00, cmp_t00, copD, bopD, ixD, slD, opI, at0, at1, at2, at3, at4, set3_0, set3_1, set3_2, truD, truOk, mkV, asgT, asgL, ↓setN_s, setN_zu, setN_zs, setN_zo, ↓setO_z, ↓setO_s, ownL, ↓chg_s, chg_zo, chg_zr, retV, outsE, mapM0, ↓mapM1, ↓mapM2, ↓mapM3, bltD, isiD, Es.len, Ar.slots, nodup, datas, Ar.data, puts, itD, ↓wipe1s, ↓wipe2s, wipe0, shn_sn, shn_sh, shn_un, keepE_nr, keepE_sn, setN_nr, setN_sn, Tg.slots, keepE_nil, keepE_sh, keepE_un, keepE_ow, keepE_rf, augD, initE, rgI, List.set_cons_zero, List.set_cons_succ, List.replicate_succ, List.replicate_zero, ln0, ln1, ln2, ln3, ln4, ln5, ln6, ln7, ln8, ln9, ln10, ln11, ln12, ln13, ln14, ln15, ln16, Option.map, Bool.false_or, Bool.or_false, Bool.true_or, Bool.or_true, Bool.false_and, Bool.true_and, Bool.and_false, Bool.and_true, true_or, or_true, decide_true, decide_false, Bool.false_eq_true, and_self, and_true, true_and, Bool.not_true, Bool.not_false, Bool.and_self, Bool.not_not, List.getElem?_cons_zero, List.getElem?_cons_succ, List.take_succ_cons, List.take_zero, List.drop_succ_cons, List.drop_zero, List.nil_append, List.append_nil, List.cons_append, List.contains_nil, filter_ff, eqv_tnil', isE_nil, isE_cons, eqvI, eqvS, eqv_nil, List.map_cons, List.map_nil, es_pp, es_pd, es_ps, es_dp, es_dd, es_ds, es_sp, es_sd, es_ss, ite_tt, ite_ff, ↓reduceIte, Prod.fst, Prod.snd, K11.md_law_pen, K88.md_law_draw, K88.md_law_values, K88.md_law_stack, K88.md_law_target, K88.md_law_reach, K88.md_depth_beside, K88.md_common_prefix, K88.md_obstacle, K88.md_decide_beside, K44.md_decide_kw_reach, K44.md_reaches_kw_reach, K44.md_helpful_pushes_kw_reach, K44.md_law_is_reached, K44.md_law, K11.md_law_pen, K88.md_law_draw, K88.md_law_values, K88.md_law_stack, K88.md_law_target, K88.md_law_constants, K88.md_law_reach, K88.md_depth_beside, K88.md_common_prefix, K88.md_obstacle, K88.md_decide_beside, K88.md_decide_with_kw_constants_reach, K88.md_reaches_with_kw_constants_reach, K88.md_law_bare, K88.md_law_decided, K88.md_law_right, K88.md_law, eqv_scr_nil, cmp_nil, wipe3s])
local macro_rules | `(tactic| wtm_at "ck") => `(tactic| with_reducible refine Wp.chkd (by first | assumption | omega | (have hsl := slE; (try simp only [List.length_cons, List.length_nil, List.length_append, List.length_map, List.length_replicate, List.length_dropLast, List.length_set, List.length_take, List.length_drop, List.length_reverse]); omega)) ?_)
local macro_rules | `(tactic| wtm_at "pk") => `(tactic| with_reducible refine Wp.draw (K88.draw_run _ _ _ _ (by omega) (by omega) (by omega) (by omega) (by omega)) ?_)
local macro_rules | `(tactic| wtm_at "rg") => `(tactic| with_reducible refine Wp.lift (rg62_ok (by omega)) ?_)
local macro_rules | `(tactic| wtm_at "al") => `(tactic| ((repeat (refine all_cons ⟨_, rfl, by omega, by omega⟩ ?_)); exact all_nil))
local macro_rules | `(tactic| wtm_at "go") => `(tactic| repeat (first | wtm_at "ck" | wtm_at "st"))
local macro_rules | `(tactic| wtm_at "sl") => `(tactic| (with_reducible apply Wp.sel) <;> intro hsel)
local macro_rules | `(tactic| wtm_at "br") => `(tactic| repeat' (first | wtm_at "ck" | (with_reducible refine Wp.selT (by assumption) ?_) | (with_reducible refine Wp.selF (by assumption) ?_) | wtm_at "sl" | wtm_at "st"))
local macro_rules | `(tactic| wtm_at "bd") => `(tactic| repeat' (first | wtm_at "ck" | (with_reducible refine Wp.selp (by omega) ?_) | (with_reducible refine Wp.seln (by omega) ?_) | ((with_reducible apply Wp.seld) <;> intro hsel) | wtm_at "st"))
namespace K44
open PySem Di Wd K88
set_option maxHeartbeats 4000000 in
theorem law_true (ns : List Int) (hns : ns.length ≤ 63) : f_law.run [scr ns] = .ok false (.bool true) [] := by
  apply Sp.eq
  refine sp_run (n := 11) (md := [false]) (b := ir_law) (tb := _) (ds := [scr ns]) rfl ?_
  delta ir_law
  have sl := slE
  wtm_at "go"
  refine Wp.calle (pen_run ns hns) ?_
  wtm_at "go"
  wtm_at "rg"
  wtm_at "go"
  refine Wp.for (fun rest r => ∃ (a g : Int) (s2 s3 s4 s5 s6 s8 : Sn) (s7 s9 : Nr), r = [.sh (scr ns), .ow (pen ns a g), sn s2, sn s3, sn s4, sn s5, sn s6, nr s7, sn s8, nr s9, .un] ∧ 0 ≤ a ∧ a + 200 * rest.length ≤ 1000 ∧ 0 ≤ g) ?step ?done ⟨0, 0, .un, .un, .un, .un, .un, .un, .un, .un, rfl, by omega, by unfold rgD; simp, by omega⟩
  case step =>
    rintro x xs r ⟨a, g, s2, s3, s4, s5, s6, s8, s7, s9, rfl, a0, a1, g0⟩
    simp only [List.length_cons] at a1
    wtm_at "go"
    refine Wp.call (values_run ns a g a0 (by omega) g0) (fun fr d o e => ?_) fun _ _ h => h.elim
    obtain ⟨vs, b1, k1, rfl, rfl, rfl, lv, lv2, ov, l1, u1, z1⟩ := e
    wtm_at "go"
    refine Wp.call (stack_run 39 ns vs b1 k1 (by omega) (by omega) (by omega) (by omega) z1 ov lv (by omega)) (fun fr d o e => ?_) fun _ _ h => h.elim
    obtain ⟨ss, b2, k2, rfl, rfl, rfl, ls, os, l2, u2, z2⟩ := e
    wtm_at "go"
    refine Wp.call (target_run 40 ns ss vs b2 k2 (by omega) (by omega) (by omega) (by omega) z2 ov lv (by omega) os (by omega)) (fun fr d o e => ?_) fun _ _ h => h.elim
    obtain ⟨ts, b3, k3, rfl, rfl, rfl, lt, ot, l3, u3, z3⟩ := e
    wtm_at "go"
    refine Wp.call (reach_run ns b3 k3 (by omega) (by omega) z3) (fun fr d o e => ?_) fun _ _ h => h.elim
    obtain ⟨K, b5, k5, rfl, rfl, rfl, lk, lk2, l5, u5, z5⟩ := e
    have eK : K = ((K.toNat : Nat) : Int) := by omega
    have hK : 1 ≤ K.toNat := by omega
    generalize K.toNat = k at eK hK
    have bl := bare_len (ws := ts)
    have rp1 : rpOk (.list ((help ss ts k).map .str)) = true := (lst_gd (help_sub ot) (by have := help_len (ss := ss) (ts := ts) (k := k); omega)).rp (by omega) (by omega)
    have rp2 : rpOk (.tuple [.tuple (ss.map .str), .tuple (ts.map .str)]) = true := (gd2 (tS_gd os (by omega)) (tS_gd ot (by omega))).rp (by omega) (by omega)
    have sh1 : SeqAt.shaped (.list ((bare ts []).map .str)) = true := (lst_gd (fun w hw => ot w (mem_bare.mp hw).1) (by omega)).shaped (by omega)
    have hr := helpful_run ss ts K k eK (by omega) (by omega) hK ot
    have rr := reaches_run ss ts K k eK (by omega) (by omega) hK ot
    have hln : (help ss ts k).length ≤ 40 := by have := help_len (ss := ss) (ts := ts) (k := k); omega
    have hlm : ((help ss ts k).map PyData.str).length ≤ 40 := by rw [List.length_map]; exact hln
    have ha := help_all (ss := ss) (ts := ts) (k := k)
    have sr := srt_tS (ws := ts) (by omega)
    unfold tS
    wtm_at "go"
    refine Wp.lift sr ?_
    wtm_at "go"
    refine Wp.lcF (pH ss ts k) (fun x => x) (fun x hx => ?_) (by rw [List.length_map]; omega) ?_
    · obtain ⟨w, hw, rfl⟩ := List.mem_map.mp hx
      have hw2 : Gw w := ot w (mem_bare.mp hw).1
      wtm_at "go"
      rw [show ss.map PyData.str ++ [PyData.str w] = (ss ++ [w]).map .str by rw [List.map_append]; rfl]
      refine Wp.call (is_reached_run (ss ++ [w]) ts K k eK (by rw [List.length_append, List.length_singleton]; omega) (by omega) hK (fun v hv => by
        rcases List.mem_append.mp hv with hv | hv
        · exact os v hv
        · rw [List.mem_singleton.mp hv]; exact hw2) ot) (fun fr d o e => ?_) fun _ _ h => h.elim
      obtain ⟨rfl, rfl, rfl⟩ := e
      wtm_at "go"
      refine ⟨rfl, ?_⟩
      refine Wp.sel (fun h3 => ?_) fun h3 => ?_
      · wtm_at "go"
        try exact fun _ => trivial
      · wtm_at "go"
        intro h
        have h : rch (dec (ss ++ [w]) ts [] k) = true := h
        rw [h3] at h
        cases h
    · rw [map_id', help_eq, show (List.filter (fun w => rch (dec (ss ++ [w]) ts [] k)) (bare ts [])) = help ss ts k from rfl]
      wtm_at "go"
      refine Wp.calle (Sp.eq hr) ?_
      wtm_at "go"
      refine Wp.calle (Sp.eq rr) ?_
      wtm_at "go"
      have fin : ∀ (s7 s9 : Sl) (s10 : Sl), True := fun _ _ _ => trivial
      refine Wp.sel (fun h3 => ?_) fun h3 => ?_
      · have he := ha h3
        rw [he] at hr rp1 ⊢
        wtm_at "go"
        refine Wp.lift sr ?_
        wtm_at "go"
        refine Wp.chkd (cmp_of sh1 sh1) ?_
        rw [SeqAt.eqv_refl _ (SeqAt.canLay_of_shaped sh1)]
        wtm_at "go"
        refine Wp.calle (Sp.eq hr) ?_
        wtm_at "go"
        exact ⟨b5, k5, .sh _, .sh _, .sh _, .sh _, .sh _, .sh _, .ow _, .ow _, rfl, by omega, by omega, z5⟩
      · wtm_at "go"
        refine Wp.selF h3 ?_
        wtm_at "go"
        refine Wp.calle (Sp.eq hr) ?_
        wtm_at "go"
        exact ⟨b5, k5, .sh _, .sh _, .sh _, .sh _, .sh _, .sh _, .ow _, .ow _, rfl, by omega, by omega, z5⟩
  case done =>
    rintro r ⟨a, g, s2, s3, s4, s5, s6, s8, s7, s9, rfl, a0, a1, g0⟩
    wtm_at "go"
    refine Wp.calle (Sp.eq last_run) ?_
    wtm_at "go"
    have sh0 : SeqAt.shaped (.list [.str (Str.ofString "a")]) = true := by decide +kernel
    refine Wp.chkd (cmp_of sh0 sh0) ?_
    rw [SeqAt.eqv_refl _ (SeqAt.canLay_of_shaped sh0)]
    wtm_at "go"
end K44
end
namespace K44
open PySem PySem.Spec PyProof.Rows L2 Di
def top (i : Nat) : Stmt := PySem.Challenge.pw_deepedge_k44_helpful_pushes_told.main.body.getD i (.Pass ⟨0, 0, 0, 0⟩)
abbrev st_law_pen : Stmt := top 11
def cn_law_pen : Cn := ⟨["_law_script"], [], []⟩
theorem ck_law_pen : chkSs cn_law_pen K11.ir_law_pen (C8.fnScope st_law_pen) (C8.fnBody st_law_pen) = true := by decide +kernel
theorem sc_law_pen : C8.scC cn_law_pen.N ((["_law_script"] : List Str)) (C8.fnScope st_law_pen) = true := by decide +kernel
abbrev st_law_draw : Stmt := top 12
def cn_law_draw : Cn := ⟨["_law_pen_here", "_law_count", "_law_at", "_law_cell", "_law_mixed", "_law_digit", "_law_great"], [], []⟩
theorem ck_law_draw : chkSs cn_law_draw K88.ir_law_draw (C8.fnScope st_law_draw) (C8.fnBody st_law_draw) = true := by decide +kernel
theorem sc_law_draw : C8.scC cn_law_draw.N ((["_law_pen_here", "_law_count"] : List Str)) (C8.fnScope st_law_draw) = true := by decide +kernel
abbrev st_law_values : Stmt := top 13
def cn_law_values : Cn := ⟨["_law_pen_here", "_law_most", "_law_left", "_law_k"], [⟨"_law_draw", []⟩], []⟩
theorem ck_law_values : chkSs cn_law_values K88.ir_law_values (C8.fnScope st_law_values) (C8.fnBody st_law_values) = true := by decide +kernel
theorem sc_law_values : C8.scC cn_law_values.N ((["_law_pen_here", "_law_most"] : List Str)) (C8.fnScope st_law_values) = true := by decide +kernel
abbrev st_law_stack : Stmt := top 14
def cn_law_stack : Cn := ⟨["_law_pen_here", "_law_values_here", "_law_most", "_law_size", "_law_way", "_law_found", "_law_k"], [⟨"_law_draw", []⟩], []⟩
theorem ck_law_stack : chkSs cn_law_stack K88.ir_law_stack (C8.fnScope st_law_stack) (C8.fnBody st_law_stack) = true := by decide +kernel
theorem sc_law_stack : C8.scC cn_law_stack.N ((["_law_pen_here", "_law_values_here", "_law_most"] : List Str)) (C8.fnScope st_law_stack) = true := by decide +kernel
abbrev st_law_target : Stmt := top 16
def cn_law_target : Cn := ⟨["_law_pen_here", "_law_stack_here", "_law_values_here", "_law_most", "_law_way", "_law_floor", "_law_some", "_law_size", "_law_found", "_law_k"], [⟨"_law_draw", []⟩, ⟨"_law_stack", []⟩], []⟩
theorem ck_law_target : chkSs cn_law_target K88.ir_law_target (C8.fnScope st_law_target) (C8.fnBody st_law_target) = true := by decide +kernel
theorem sc_law_target : C8.scC cn_law_target.N ((["_law_pen_here", "_law_stack_here", "_law_values_here", "_law_most"] : List Str)) (C8.fnScope st_law_target) = true := by decide +kernel
abbrev st_law_reach : Stmt := top 15
def cn_law_reach : Cn := ⟨["_law_pen_here"], [⟨"_law_draw", []⟩], []⟩
theorem ck_law_reach : chkSs cn_law_reach K88.ir_law_reach (C8.fnScope st_law_reach) (C8.fnBody st_law_reach) = true := by decide +kernel
theorem sc_law_reach : C8.scC cn_law_reach.N ((["_law_pen_here"] : List Str)) (C8.fnScope st_law_reach) = true := by decide +kernel
abbrev st_depth_beside : Stmt := top 2
def cn_depth_beside : Cn := ⟨["target", "constants", "reach", "above", "index"], [], []⟩
theorem ck_depth_beside : chkSs cn_depth_beside K88.ir_depth_beside (C8.fnScope st_depth_beside) (C8.fnBody st_depth_beside) = true := by decide +kernel
theorem sc_depth_beside : C8.scC cn_depth_beside.N ((["target", "constants", "reach"] : List Str)) (C8.fnScope st_depth_beside) = true := by decide +kernel
abbrev st_common_prefix : Stmt := top 1
def cn_common_prefix : Cn := ⟨["one", "other", "index", "left", "right"], [], []⟩
theorem ck_common_prefix : chkSs cn_common_prefix K88.ir_common_prefix (C8.fnScope st_common_prefix) (C8.fnBody st_common_prefix) = true := by decide +kernel
theorem sc_common_prefix : C8.scC cn_common_prefix.N ((["one", "other"] : List Str)) (C8.fnScope st_common_prefix) = true := by decide +kernel
abbrev st_obstacle : Stmt := top 7
def cn_obstacle : Cn := ⟨["stack", "ground", "needed", "reach", "depth", "kept", "missing"], [⟨"common_prefix", []⟩], []⟩
theorem ck_obstacle : chkSs cn_obstacle K88.ir_obstacle (C8.fnScope st_obstacle) (C8.fnBody st_obstacle) = true := by decide +kernel
theorem sc_obstacle : C8.scC cn_obstacle.N ((["stack", "ground", "needed", "reach"] : List Str)) (C8.fnScope st_obstacle) = true := by decide +kernel
abbrev st_decide_beside : Stmt := top 6
def cn_decide_beside : Cn := ⟨["stack", "target", "constants", "reach", "depth", "needed", "witnesses", "reason", "detail"], [⟨"depth_beside", []⟩, ⟨"_obstacle", []⟩], []⟩
theorem ck_decide_beside : chkSs cn_decide_beside K88.ir_decide_beside (C8.fnScope st_decide_beside) (C8.fnBody st_decide_beside) = true := by decide +kernel
theorem sc_decide_beside : C8.scC cn_decide_beside.N ((["stack", "target", "constants", "reach"] : List Str)) (C8.fnScope st_decide_beside) = true := by decide +kernel
abbrev st_decide : Stmt := top 5
def cn_decide : Cn := ⟨["stack", "target", "reach"], [⟨"decide_beside", []⟩], []⟩
theorem args_decide : ∃ (t0 : Option Expr) (p0 : Pos) (t1 : Option Expr) (p1 : Pos) (t2 : Option Expr) (p2 : Pos) (kd : List (Option Expr)), C8.fnArgs st_decide = ⟨[], [⟨"stack", t0, p0⟩, ⟨"target", t1, p1⟩], none, [⟨"reach", t2, p2⟩], kd, none, []⟩ := ⟨_, _, _, _, _, _, _, rfl⟩
theorem ck_decide : chkSs cn_decide K44.ir_decide (C8.fnScope st_decide) (C8.fnBody st_decide) = true := by decide +kernel
theorem sc_decide : C8.scC cn_decide.N ((["stack", "target", "reach"] : List Str)) (C8.fnScope st_decide) = true := by decide +kernel
abbrev st_reaches : Stmt := top 4
def cn_reaches : Cn := ⟨["stack", "target", "reach"], [⟨"decide", ["reach"]⟩], []⟩
theorem args_reaches : ∃ (t0 : Option Expr) (p0 : Pos) (t1 : Option Expr) (p1 : Pos) (t2 : Option Expr) (p2 : Pos) (kd : List (Option Expr)), C8.fnArgs st_reaches = ⟨[], [⟨"stack", t0, p0⟩, ⟨"target", t1, p1⟩], none, [⟨"reach", t2, p2⟩], kd, none, []⟩ := ⟨_, _, _, _, _, _, _, rfl⟩
theorem ck_reaches : chkSs cn_reaches K44.ir_reaches (C8.fnScope st_reaches) (C8.fnBody st_reaches) = true := by decide +kernel
theorem sc_reaches : C8.scC cn_reaches.N ((["stack", "target", "reach"] : List Str)) (C8.fnScope st_reaches) = true := by decide +kernel
abbrev st_helpful_pushes : Stmt := top 9
def cn_helpful_pushes : Cn := ⟨["stack", "target", "reach", "value"], [⟨"reaches", ["reach"]⟩], []⟩
theorem args_helpful_pushes : ∃ (t0 : Option Expr) (p0 : Pos) (t1 : Option Expr) (p1 : Pos) (t2 : Option Expr) (p2 : Pos) (kd : List (Option Expr)), C8.fnArgs st_helpful_pushes = ⟨[], [⟨"stack", t0, p0⟩, ⟨"target", t1, p1⟩], none, [⟨"reach", t2, p2⟩], kd, none, []⟩ := ⟨_, _, _, _, _, _, _, rfl⟩
theorem ck_helpful_pushes : chkSs cn_helpful_pushes K44.ir_helpful_pushes (C8.fnScope st_helpful_pushes) (C8.fnBody st_helpful_pushes) = true := by decide +kernel
theorem sc_helpful_pushes : C8.scC cn_helpful_pushes.N ((["stack", "target", "reach"] : List Str)) (C8.fnScope st_helpful_pushes) = true := by decide +kernel
abbrev st_law_is_reached : Stmt := top 17
def cn_law_is_reached : Cn := ⟨["_law_stack_here", "_law_target_here", "_law_span", "_law_depth", "_law_needed", "_law_value"], [], []⟩
theorem ck_law_is_reached : chkSs cn_law_is_reached K44.ir_law_is_reached (C8.fnScope st_law_is_reached) (C8.fnBody st_law_is_reached) = true := by decide +kernel
theorem sc_law_is_reached : C8.scC cn_law_is_reached.N ((["_law_stack_here", "_law_target_here", "_law_span"] : List Str)) (C8.fnScope st_law_is_reached) = true := by decide +kernel
abbrev st_law : Stmt := top 18
def cn_law : Cn := ⟨["_law_script", "_law_pen_here", "_law_turn", "_law_values_here", "_law_stack_here", "_law_target_here", "_law_span", "_law_due", "_law_shown", "_law_told", "_law_value"], [⟨"_law_pen", []⟩, ⟨"_law_values", []⟩, ⟨"_law_stack", []⟩, ⟨"_law_target", []⟩, ⟨"_law_reach", []⟩, ⟨"_law_is_reached", []⟩, ⟨"helpful_pushes", ["reach"]⟩, ⟨"reaches", ["reach"]⟩], []⟩
theorem ck_law : chkSs cn_law K44.ir_law (C8.fnScope st_law) (C8.fnBody st_law) = true := by decide +kernel
theorem sc_law : C8.scC cn_law.N ((["_law_script"] : List Str)) (C8.fnScope st_law) = true := by decide +kernel
section
variable {l : PySem.W.OpenLaw} {w : World} {K : PySem.W.Frag} {h : Heap} {mg : Str → Option Value}
theorem all_mk (X : K.In h) (G : h.Ns mainGlobals mg) {fa : Addr} (hfa : mg "law" = some (.ref fa))
    {f0 : Addr} {od0 an0 : Option Addr} {sl0 : Array (Option Value)} {oc0 dc0 pm0 cd0 ct0 : Value}
    {kV0 : Value}
    (a0 : PySem.W.nsIn K mainGlobals "_law_pen" = some (some (.ref f0))) (l0 : K.lookup f0 = some ⟨oc0, od0, .func (PySem.W.fnOf "_law_pen" "_law_pen" (C8.fnArgs st_law_pen) (C8.fnBody st_law_pen) (C8.fnScope st_law_pen) .none kV0 dc0 pm0 an0 cd0 ct0), sl0⟩) (c0 : PySem.W.codeIn K cd0 "_law_pen" = true) (k0 : PySem.W.keepIn K (.ref f0) = true)
    {f1 : Addr} {od1 an1 : Option Addr} {sl1 : Array (Option Value)} {oc1 dc1 pm1 cd1 ct1 : Value}
    {kV1 : Value}
    (a1 : PySem.W.nsIn K mainGlobals "_law_draw" = some (some (.ref f1))) (l1 : K.lookup f1 = some ⟨oc1, od1, .func (PySem.W.fnOf "_law_draw" "_law_draw" (C8.fnArgs st_law_draw) (C8.fnBody st_law_draw) (C8.fnScope st_law_draw) .none kV1 dc1 pm1 an1 cd1 ct1), sl1⟩) (c1 : PySem.W.codeIn K cd1 "_law_draw" = true) (k1 : PySem.W.keepIn K (.ref f1) = true)
    {f2 : Addr} {od2 an2 : Option Addr} {sl2 : Array (Option Value)} {oc2 dc2 pm2 cd2 ct2 : Value}
    {kV2 : Value}
    (a2 : PySem.W.nsIn K mainGlobals "_law_values" = some (some (.ref f2))) (l2 : K.lookup f2 = some ⟨oc2, od2, .func (PySem.W.fnOf "_law_values" "_law_values" (C8.fnArgs st_law_values) (C8.fnBody st_law_values) (C8.fnScope st_law_values) .none kV2 dc2 pm2 an2 cd2 ct2), sl2⟩) (c2 : PySem.W.codeIn K cd2 "_law_values" = true) (k2 : PySem.W.keepIn K (.ref f2) = true)
    {f3 : Addr} {od3 an3 : Option Addr} {sl3 : Array (Option Value)} {oc3 dc3 pm3 cd3 ct3 : Value}
    {kV3 : Value}
    (a3 : PySem.W.nsIn K mainGlobals "_law_stack" = some (some (.ref f3))) (l3 : K.lookup f3 = some ⟨oc3, od3, .func (PySem.W.fnOf "_law_stack" "_law_stack" (C8.fnArgs st_law_stack) (C8.fnBody st_law_stack) (C8.fnScope st_law_stack) .none kV3 dc3 pm3 an3 cd3 ct3), sl3⟩) (c3 : PySem.W.codeIn K cd3 "_law_stack" = true) (k3 : PySem.W.keepIn K (.ref f3) = true)
    {f4 : Addr} {od4 an4 : Option Addr} {sl4 : Array (Option Value)} {oc4 dc4 pm4 cd4 ct4 : Value}
    {kV4 : Value}
    (a4 : PySem.W.nsIn K mainGlobals "_law_target" = some (some (.ref f4))) (l4 : K.lookup f4 = some ⟨oc4, od4, .func (PySem.W.fnOf "_law_target" "_law_target" (C8.fnArgs st_law_target) (C8.fnBody st_law_target) (C8.fnScope st_law_target) .none kV4 dc4 pm4 an4 cd4 ct4), sl4⟩) (c4 : PySem.W.codeIn K cd4 "_law_target" = true) (k4 : PySem.W.keepIn K (.ref f4) = true)
    {f5 : Addr} {od5 an5 : Option Addr} {sl5 : Array (Option Value)} {oc5 dc5 pm5 cd5 ct5 : Value}
    {kV5 : Value}
    (a5 : PySem.W.nsIn K mainGlobals "_law_reach" = some (some (.ref f5))) (l5 : K.lookup f5 = some ⟨oc5, od5, .func (PySem.W.fnOf "_law_reach" "_law_reach" (C8.fnArgs st_law_reach) (C8.fnBody st_law_reach) (C8.fnScope st_law_reach) .none kV5 dc5 pm5 an5 cd5 ct5), sl5⟩) (c5 : PySem.W.codeIn K cd5 "_law_reach" = true) (k5 : PySem.W.keepIn K (.ref f5) = true)
    {f6 : Addr} {od6 an6 : Option Addr} {sl6 : Array (Option Value)} {oc6 dc6 pm6 cd6 ct6 : Value}
    {kV6 : Value}
    (a6 : PySem.W.nsIn K mainGlobals "depth_beside" = some (some (.ref f6))) (l6 : K.lookup f6 = some ⟨oc6, od6, .func (PySem.W.fnOf "depth_beside" "depth_beside" (C8.fnArgs st_depth_beside) (C8.fnBody st_depth_beside) (C8.fnScope st_depth_beside) .none kV6 dc6 pm6 an6 cd6 ct6), sl6⟩) (c6 : PySem.W.codeIn K cd6 "depth_beside" = true) (k6 : PySem.W.keepIn K (.ref f6) = true)
    {f7 : Addr} {od7 an7 : Option Addr} {sl7 : Array (Option Value)} {oc7 dc7 pm7 cd7 ct7 : Value}
    {kV7 : Value}
    (a7 : PySem.W.nsIn K mainGlobals "common_prefix" = some (some (.ref f7))) (l7 : K.lookup f7 = some ⟨oc7, od7, .func (PySem.W.fnOf "common_prefix" "common_prefix" (C8.fnArgs st_common_prefix) (C8.fnBody st_common_prefix) (C8.fnScope st_common_prefix) .none kV7 dc7 pm7 an7 cd7 ct7), sl7⟩) (c7 : PySem.W.codeIn K cd7 "common_prefix" = true) (k7 : PySem.W.keepIn K (.ref f7) = true)
    {f8 : Addr} {od8 an8 : Option Addr} {sl8 : Array (Option Value)} {oc8 dc8 pm8 cd8 ct8 : Value}
    {kV8 : Value}
    (a8 : PySem.W.nsIn K mainGlobals "_obstacle" = some (some (.ref f8))) (l8 : K.lookup f8 = some ⟨oc8, od8, .func (PySem.W.fnOf "_obstacle" "_obstacle" (C8.fnArgs st_obstacle) (C8.fnBody st_obstacle) (C8.fnScope st_obstacle) .none kV8 dc8 pm8 an8 cd8 ct8), sl8⟩) (c8 : PySem.W.codeIn K cd8 "_obstacle" = true) (k8 : PySem.W.keepIn K (.ref f8) = true)
    {f9 : Addr} {od9 an9 : Option Addr} {sl9 : Array (Option Value)} {oc9 dc9 pm9 cd9 ct9 : Value}
    {kV9 : Value}
    (a9 : PySem.W.nsIn K mainGlobals "decide_beside" = some (some (.ref f9))) (l9 : K.lookup f9 = some ⟨oc9, od9, .func (PySem.W.fnOf "decide_beside" "decide_beside" (C8.fnArgs st_decide_beside) (C8.fnBody st_decide_beside) (C8.fnScope st_decide_beside) .none kV9 dc9 pm9 an9 cd9 ct9), sl9⟩) (c9 : PySem.W.codeIn K cd9 "decide_beside" = true) (k9 : PySem.W.keepIn K (.ref f9) = true)
    {f10 : Addr} {od10 an10 : Option Addr} {sl10 : Array (Option Value)} {oc10 dc10 pm10 cd10 ct10 : Value}
    {kd10 : Addr}
    (a10 : PySem.W.nsIn K mainGlobals "decide" = some (some (.ref f10))) (l10 : K.lookup f10 = some ⟨oc10, od10, .func (PySem.W.fnOf "decide" "decide" (C8.fnArgs st_decide) (C8.fnBody st_decide) (C8.fnScope st_decide) .none (.ref kd10) dc10 pm10 an10 cd10 ct10), sl10⟩) (c10 : PySem.W.codeIn K cd10 "decide" = true) (k10 : PySem.W.keepIn K (.ref f10) = true)
    {kt10_0 : Tok}
    (kw10_0 : PySem.W.nsIn K kd10 "reach" = some (some (.int 16 kt10_0)))
    {f11 : Addr} {od11 an11 : Option Addr} {sl11 : Array (Option Value)} {oc11 dc11 pm11 cd11 ct11 : Value}
    {kd11 : Addr}
    (a11 : PySem.W.nsIn K mainGlobals "reaches" = some (some (.ref f11))) (l11 : K.lookup f11 = some ⟨oc11, od11, .func (PySem.W.fnOf "reaches" "reaches" (C8.fnArgs st_reaches) (C8.fnBody st_reaches) (C8.fnScope st_reaches) .none (.ref kd11) dc11 pm11 an11 cd11 ct11), sl11⟩) (c11 : PySem.W.codeIn K cd11 "reaches" = true) (k11 : PySem.W.keepIn K (.ref f11) = true)
    {kt11_0 : Tok}
    (kw11_0 : PySem.W.nsIn K kd11 "reach" = some (some (.int 16 kt11_0)))
    {f12 : Addr} {od12 an12 : Option Addr} {sl12 : Array (Option Value)} {oc12 dc12 pm12 cd12 ct12 : Value}
    {kd12 : Addr}
    (a12 : PySem.W.nsIn K mainGlobals "helpful_pushes" = some (some (.ref f12))) (l12 : K.lookup f12 = some ⟨oc12, od12, .func (PySem.W.fnOf "helpful_pushes" "helpful_pushes" (C8.fnArgs st_helpful_pushes) (C8.fnBody st_helpful_pushes) (C8.fnScope st_helpful_pushes) .none (.ref kd12) dc12 pm12 an12 cd12 ct12), sl12⟩) (c12 : PySem.W.codeIn K cd12 "helpful_pushes" = true) (k12 : PySem.W.keepIn K (.ref f12) = true)
    {kt12_0 : Tok}
    (kw12_0 : PySem.W.nsIn K kd12 "reach" = some (some (.int 16 kt12_0)))
    {f13 : Addr} {od13 an13 : Option Addr} {sl13 : Array (Option Value)} {oc13 dc13 pm13 cd13 ct13 : Value}
    {kV13 : Value}
    (a13 : PySem.W.nsIn K mainGlobals "_law_is_reached" = some (some (.ref f13))) (l13 : K.lookup f13 = some ⟨oc13, od13, .func (PySem.W.fnOf "_law_is_reached" "_law_is_reached" (C8.fnArgs st_law_is_reached) (C8.fnBody st_law_is_reached) (C8.fnScope st_law_is_reached) .none kV13 dc13 pm13 an13 cd13 ct13), sl13⟩) (c13 : PySem.W.codeIn K cd13 "_law_is_reached" = true) (k13 : PySem.W.keepIn K (.ref f13) = true)
    {f14 : Addr} {od14 an14 : Option Addr} {sl14 : Array (Option Value)} {oc14 dc14 pm14 cd14 ct14 : Value}
    {kV14 : Value}
    (a14 : PySem.W.nsIn K mainGlobals "law" = some (some (.ref f14))) (l14 : K.lookup f14 = some ⟨oc14, od14, .func (PySem.W.fnOf "law" "law" (C8.fnArgs st_law) (C8.fnBody st_law) (C8.fnScope st_law) .none kV14 dc14 pm14 an14 cd14 ct14), sl14⟩) (c14 : PySem.W.codeIn K cd14 "law" = true) (k14 : PySem.W.keepIn K (.ref f14) = true)
    (z0 : PySem.W.nsIn K mainGlobals "len" = some none)
    (z1 : PySem.W.nsIn K mainGlobals "list" = some none)
    (z2 : PySem.W.nsIn K mainGlobals "tuple" = some none)
    (z3 : PySem.W.nsIn K mainGlobals "abs" = some none)
    (z4 : PySem.W.nsIn K mainGlobals "int" = some none)
    (z5 : PySem.W.nsIn K mainGlobals "max" = some none)
    (z6 : PySem.W.nsIn K mainGlobals "min" = some none)
    (z7 : PySem.W.nsIn K mainGlobals "repr" = some none)
    (z8 : PySem.W.nsIn K mainGlobals "all" = some none)
    (z9 : PySem.W.nsIn K mainGlobals "str" = some none)
    (z10 : PySem.W.nsIn K mainGlobals "range" = some none)
    (z11 : PySem.W.nsIn K mainGlobals "isinstance" = some none)
    (z12 : PySem.W.nsIn K mainGlobals "bool" = some none)
    (z13 : PySem.W.nsIn K mainGlobals "dict" = some none)
    (z14 : PySem.W.nsIn K mainGlobals "zip" = some none)
    (z15 : PySem.W.nsIn K mainGlobals "enumerate" = some none)
    (z16 : PySem.W.nsIn K mainGlobals "reversed" = some none)
    (z17 : PySem.W.nsIn K mainGlobals "sorted" = some none)
    (z18 : PySem.W.nsIn K mainGlobals "set" = some none)
    (z19 : PySem.W.nsIn K mainGlobals "sum" = some none)
    (z20 : PySem.W.nsIn K mainGlobals "any" = some none)
    (base : Heap) : FnG l.prog w K mg base (fun _ => .none) 7 fa [] K44.f_law := by
  have bl : ∀ x ∈ (["len", "list", "tuple", "abs", "int", "max", "min", "repr", "all", "str", "range", "isinstance", "bool", "dict", "zip", "enumerate", "reversed", "sorted", "set", "sum", "any"] : List Str), mg x = none := by
    intro x hx
    simp only [List.mem_cons, List.not_mem_nil, or_false] at hx
    rcases hx with rfl | rfl | rfl | rfl | rfl | rfl | rfl | rfl | rfl | rfl | rfl | rfl | rfl | rfl | rfl | rfl | rfl | rfl | rfl | rfl | rfl
    · exact PySem.W.mg_none_of X G z0
    · exact PySem.W.mg_none_of X G z1
    · exact PySem.W.mg_none_of X G z2
    · exact PySem.W.mg_none_of X G z3
    · exact PySem.W.mg_none_of X G z4
    · exact PySem.W.mg_none_of X G z5
    · exact PySem.W.mg_none_of X G z6
    · exact PySem.W.mg_none_of X G z7
    · exact PySem.W.mg_none_of X G z8
    · exact PySem.W.mg_none_of X G z9
    · exact PySem.W.mg_none_of X G z10
    · exact PySem.W.mg_none_of X G z11
    · exact PySem.W.mg_none_of X G z12
    · exact PySem.W.mg_none_of X G z13
    · exact PySem.W.mg_none_of X G z14
    · exact PySem.W.mg_none_of X G z15
    · exact PySem.W.mg_none_of X G z16
    · exact PySem.W.mg_none_of X G z17
    · exact PySem.W.mg_none_of X G z18
    · exact PySem.W.mg_none_of X G z19
    · exact PySem.W.mg_none_of X G z20
  obtain ⟨_, _, _, _, _, _, _, ha10⟩ := args_decide
  obtain ⟨_, _, _, _, _, _, _, ha11⟩ := args_reaches
  obtain ⟨_, _, _, _, _, _, _, ha12⟩ := args_helpful_pushes
  have p_f_law_pen : FnG l.prog w K mg base (fun _ => .none) 1 f0 [] K11.f_law_pen :=
    fng_chk (cn := cn_law_pen) (ps := ["_law_script"]) (md := [false]) (b := K11.ir_law_pen) (dvs := []) (dv := []) (dd := []) l0 c0 sc_law_pen rfl .nil (fun _ _ => .nil) (fun us hl => match us, hl with | [_], _ => rfl) ⟨bl, calls_ok .nil, gcs_ok .nil⟩ ck_law_pen
  have p_f_law_draw : FnG l.prog w K mg base (fun _ => .none) 1 f1 [] K88.f_law_draw :=
    fng_chk (cn := cn_law_draw) (ps := ["_law_pen_here", "_law_count"]) (md := [true, false]) (b := K88.ir_law_draw) (dvs := []) (dv := []) (dd := []) l1 c1 sc_law_draw rfl .nil (fun _ _ => .nil) (fun us hl => match us, hl with | [_, _], _ => rfl) ⟨bl, calls_ok .nil, gcs_ok .nil⟩ ck_law_draw
  have p_f_law_values : FnG l.prog w K mg base (fun _ => .none) 2 f2 [] K88.f_law_values :=
    fng_chk (cn := cn_law_values) (ps := ["_law_pen_here", "_law_most"]) (md := [true, false]) (b := K88.ir_law_values) (dvs := []) (dv := []) (dd := []) l2 c2 sc_law_values rfl .nil (fun _ _ => .nil) (fun us hl => match us, hl with | [_, _], _ => rfl) ⟨bl, calls_ok (.cons ⟨_, PySem.W.mg_of X G a1, k1, p_f_law_draw.mono (by decide)⟩ .nil), gcs_ok .nil⟩ ck_law_values
  have p_f_law_stack : FnG l.prog w K mg base (fun _ => .none) 2 f3 [] K88.f_law_stack :=
    fng_chk (cn := cn_law_stack) (ps := ["_law_pen_here", "_law_values_here", "_law_most"]) (md := [true, false, false]) (b := K88.ir_law_stack) (dvs := []) (dv := []) (dd := []) l3 c3 sc_law_stack rfl .nil (fun _ _ => .nil) (fun us hl => match us, hl with | [_, _, _], _ => rfl) ⟨bl, calls_ok (.cons ⟨_, PySem.W.mg_of X G a1, k1, p_f_law_draw.mono (by decide)⟩ .nil), gcs_ok .nil⟩ ck_law_stack
  have p_f_law_target : FnG l.prog w K mg base (fun _ => .none) 3 f4 [] K88.f_law_target :=
    fng_chk (cn := cn_law_target) (ps := ["_law_pen_here", "_law_stack_here", "_law_values_here", "_law_most"]) (md := [true, false, false, false]) (b := K88.ir_law_target) (dvs := []) (dv := []) (dd := []) l4 c4 sc_law_target rfl .nil (fun _ _ => .nil) (fun us hl => match us, hl with | [_, _, _, _], _ => rfl) ⟨bl, calls_ok (.cons ⟨_, PySem.W.mg_of X G a1, k1, p_f_law_draw.mono (by decide)⟩ (.cons ⟨_, PySem.W.mg_of X G a3, k3, p_f_law_stack.mono (by decide)⟩ .nil)), gcs_ok .nil⟩ ck_law_target
  have p_f_law_reach : FnG l.prog w K mg base (fun _ => .none) 2 f5 [] K88.f_law_reach :=
    fng_chk (cn := cn_law_reach) (ps := ["_law_pen_here"]) (md := [true]) (b := K88.ir_law_reach) (dvs := []) (dv := []) (dd := []) l5 c5 sc_law_reach rfl .nil (fun _ _ => .nil) (fun us hl => match us, hl with | [_], _ => rfl) ⟨bl, calls_ok (.cons ⟨_, PySem.W.mg_of X G a1, k1, p_f_law_draw.mono (by decide)⟩ .nil), gcs_ok .nil⟩ ck_law_reach
  have p_f_depth_beside : FnG l.prog w K mg base (fun _ => .none) 1 f6 [] K88.f_depth_beside :=
    fng_chk (cn := cn_depth_beside) (ps := ["target", "constants", "reach"]) (md := [false, false, false]) (b := K88.ir_depth_beside) (dvs := []) (dv := []) (dd := []) l6 c6 sc_depth_beside rfl .nil (fun _ _ => .nil) (fun us hl => match us, hl with | [_, _, _], _ => rfl) ⟨bl, calls_ok .nil, gcs_ok .nil⟩ ck_depth_beside
  have p_f_common_prefix : FnG l.prog w K mg base (fun _ => .none) 1 f7 [] K88.f_common_prefix :=
    fng_chk (cn := cn_common_prefix) (ps := ["one", "other"]) (md := [false, false]) (b := K88.ir_common_prefix) (dvs := []) (dv := []) (dd := []) l7 c7 sc_common_prefix rfl .nil (fun _ _ => .nil) (fun us hl => match us, hl with | [_, _], _ => rfl) ⟨bl, calls_ok .nil, gcs_ok .nil⟩ ck_common_prefix
  have p_f_obstacle : FnG l.prog w K mg base (fun _ => .none) 2 f8 [] K88.f_obstacle :=
    fng_chk (cn := cn_obstacle) (ps := ["stack", "ground", "needed", "reach"]) (md := [false, false, false, false]) (b := K88.ir_obstacle) (dvs := []) (dv := []) (dd := []) l8 c8 sc_obstacle rfl .nil (fun _ _ => .nil) (fun us hl => match us, hl with | [_, _, _, _], _ => rfl) ⟨bl, calls_ok (.cons ⟨_, PySem.W.mg_of X G a7, k7, p_f_common_prefix.mono (by decide)⟩ .nil), gcs_ok .nil⟩ ck_obstacle
  have p_f_decide_beside : FnG l.prog w K mg base (fun _ => .none) 3 f9 [] K88.f_decide_beside :=
    fng_chk (cn := cn_decide_beside) (ps := ["stack", "target", "constants", "reach"]) (md := [false, false, false, false]) (b := K88.ir_decide_beside) (dvs := []) (dv := []) (dd := []) l9 c9 sc_decide_beside rfl .nil (fun _ _ => .nil) (fun us hl => match us, hl with | [_, _, _, _], _ => rfl) ⟨bl, calls_ok (.cons ⟨_, PySem.W.mg_of X G a6, k6, p_f_depth_beside.mono (by decide)⟩ (.cons ⟨_, PySem.W.mg_of X G a8, k8, p_f_obstacle.mono (by decide)⟩ .nil)), gcs_ok .nil⟩ ck_decide_beside
  have p_f_decide_kw_reach : FnG l.prog w K mg base (fun _ => .none) 4 f10 ["reach"] K44.f_decide_kw_reach :=
    fng_chk (cn := cn_decide) (ps := ["stack", "target", "reach"]) (md := [false, false, false]) (b := K44.ir_decide) (dvs := []) (dv := []) (dd := []) l10 c10 sc_decide rfl .nil (fun _ _ => .nil) (fun us hl => match us, hl with | [_, _, _], _ => rfl) ⟨bl, calls_ok (.cons ⟨_, PySem.W.mg_of X G a9, k9, p_f_decide_beside.mono (by decide)⟩ .nil), gcs_ok .nil⟩ ck_decide
  have p_f_reaches_kw_reach : FnG l.prog w K mg base (fun _ => .none) 5 f11 ["reach"] K44.f_reaches_kw_reach :=
    fng_chk (cn := cn_reaches) (ps := ["stack", "target", "reach"]) (md := [false, false, false]) (b := K44.ir_reaches) (dvs := []) (dv := []) (dd := []) l11 c11 sc_reaches rfl .nil (fun _ _ => .nil) (fun us hl => match us, hl with | [_, _, _], _ => rfl) ⟨bl, calls_ok (.cons ⟨_, PySem.W.mg_of X G a10, k10, p_f_decide_kw_reach.mono (by decide)⟩ .nil), gcs_ok .nil⟩ ck_reaches
  have p_f_helpful_pushes_kw_reach : FnG l.prog w K mg base (fun _ => .none) 6 f12 ["reach"] K44.f_helpful_pushes_kw_reach :=
    fng_chk (cn := cn_helpful_pushes) (ps := ["stack", "target", "reach"]) (md := [false, false, false]) (b := K44.ir_helpful_pushes) (dvs := []) (dv := []) (dd := []) l12 c12 sc_helpful_pushes rfl .nil (fun _ _ => .nil) (fun us hl => match us, hl with | [_, _, _], _ => rfl) ⟨bl, calls_ok (.cons ⟨_, PySem.W.mg_of X G a11, k11, p_f_reaches_kw_reach.mono (by decide)⟩ .nil), gcs_ok .nil⟩ ck_helpful_pushes
  have p_f_law_is_reached : FnG l.prog w K mg base (fun _ => .none) 1 f13 [] K44.f_law_is_reached :=
    fng_chk (cn := cn_law_is_reached) (ps := ["_law_stack_here", "_law_target_here", "_law_span"]) (md := [false, false, false]) (b := K44.ir_law_is_reached) (dvs := []) (dv := []) (dd := []) l13 c13 sc_law_is_reached rfl .nil (fun _ _ => .nil) (fun us hl => match us, hl with | [_, _, _], _ => rfl) ⟨bl, calls_ok .nil, gcs_ok .nil⟩ ck_law_is_reached
  have p_f_law : FnG l.prog w K mg base (fun _ => .none) 7 f14 [] K44.f_law :=
    fng_chk (cn := cn_law) (ps := ["_law_script"]) (md := [false]) (b := K44.ir_law) (dvs := []) (dv := []) (dd := []) l14 c14 sc_law rfl .nil (fun _ _ => .nil) (fun us hl => match us, hl with | [_], _ => rfl) ⟨bl, calls_ok (.cons ⟨_, PySem.W.mg_of X G a0, k0, p_f_law_pen.mono (by decide)⟩ (.cons ⟨_, PySem.W.mg_of X G a2, k2, p_f_law_values.mono (by decide)⟩ (.cons ⟨_, PySem.W.mg_of X G a3, k3, p_f_law_stack.mono (by decide)⟩ (.cons ⟨_, PySem.W.mg_of X G a4, k4, p_f_law_target.mono (by decide)⟩ (.cons ⟨_, PySem.W.mg_of X G a5, k5, p_f_law_reach.mono (by decide)⟩ (.cons ⟨_, PySem.W.mg_of X G a13, k13, p_f_law_is_reached.mono (by decide)⟩ (.cons ⟨_, PySem.W.mg_of X G a12, k12, p_f_helpful_pushes_kw_reach.mono (by decide)⟩ (.cons ⟨_, PySem.W.mg_of X G a11, k11, p_f_reaches_kw_reach.mono (by decide)⟩ .nil)))))))), gcs_ok .nil⟩ ck_law
  have e := hfa.symm.trans (PySem.W.mg_of X G a14)
  cases e
  exact p_f_law
end
end K44
open PySem PySem.W PyProof.Rows
set_option maxRecDepth 100000 in
set_option maxHeartbeats 0 in
theorem PySem.Challenge.cw_deepedge_k44_helpful_pushes_told_holds : PySem.Challenge.rw_deepedge_k44_helpful_pushes_told.Holds := by
  w_on; o_law; k_head; (case hw => w_witness2)
  k_fill
  refine Di.walk_fn (l := PySem.Challenge.rw_deepedge_k44_helpful_pushes_told) (n := 63) (k := 7) (cm := fun _ => .none) (F := K44.f_law) rfl (by decide) rfl ⟨rfl, by decide, by decide⟩ (fun w h Y => PySem.W.kIn_of Y) ?F rfl K44.law_true
  case F =>
    intro w mg fa h KX G hmg base _ _
    refine' K44.all_mk KX G hmg ?a0 ?l0 ?c0 ?k0 ?a1 ?l1 ?c1 ?k1 ?a2 ?l2 ?c2 ?k2 ?a3 ?l3 ?c3 ?k3 ?a4 ?l4 ?c4 ?k4 ?a5 ?l5 ?c5 ?k5 ?a6 ?l6 ?c6 ?k6 ?a7 ?l7 ?c7 ?k7 ?a8 ?l8 ?c8 ?k8 ?a9 ?l9 ?c9 ?k9 ?a10 ?l10 ?c10 ?k10 ?kw10_0 ?a11 ?l11 ?c11 ?k11 ?kw11_0 ?a12 ?l12 ?c12 ?k12 ?kw12_0 ?a13 ?l13 ?c13 ?k13 ?a14 ?l14 ?c14 ?k14 ?z0 ?z1 ?z2 ?z3 ?z4 ?z5 ?z6 ?z7 ?z8 ?z9 ?z10 ?z11 ?z12 ?z13 ?z14 ?z15 ?z16 ?z17 ?z18 ?z19 ?z20 base
    (case a0 => k_is)
    (case l0 => k_is)
    (case c0 => k_is)
    (case k0 => k_is)
    (case a1 => k_is)
    (case l1 => k_is)
    (case c1 => k_is)
    (case k1 => k_is)
    (case a2 => k_is)
    (case l2 => k_is)
    (case c2 => k_is)
    (case k2 => k_is)
    (case a3 => k_is)
    (case l3 => k_is)
    (case c3 => k_is)
    (case k3 => k_is)
    (case a4 => k_is)
    (case l4 => k_is)
    (case c4 => k_is)
    (case k4 => k_is)
    (case a5 => k_is)
    (case l5 => k_is)
    (case c5 => k_is)
    (case k5 => k_is)
    (case a6 => k_is)
    (case l6 => k_is)
    (case c6 => k_is)
    (case k6 => k_is)
    (case a7 => k_is)
    (case l7 => k_is)
    (case c7 => k_is)
    (case k7 => k_is)
    (case a8 => k_is)
    (case l8 => k_is)
    (case c8 => k_is)
    (case k8 => k_is)
    (case a9 => k_is)
    (case l9 => k_is)
    (case c9 => k_is)
    (case k9 => k_is)
    (case a10 => k_is)
    (case l10 => k_is)
    (case c10 => k_is)
    (case k10 => k_is)
    (case kw10_0 => k_is)
    (case a11 => k_is)
    (case l11 => k_is)
    (case c11 => k_is)
    (case k11 => k_is)
    (case kw11_0 => k_is)
    (case a12 => k_is)
    (case l12 => k_is)
    (case c12 => k_is)
    (case k12 => k_is)
    (case kw12_0 => k_is)
    (case a13 => k_is)
    (case l13 => k_is)
    (case c13 => k_is)
    (case k13 => k_is)
    (case a14 => k_is)
    (case l14 => k_is)
    (case c14 => k_is)
    (case k14 => k_is)
    (case z0 => k_is)
    (case z1 => k_is)
    (case z2 => k_is)
    (case z3 => k_is)
    (case z4 => k_is)
    (case z5 => k_is)
    (case z6 => k_is)
    (case z7 => k_is)
    (case z8 => k_is)
    (case z9 => k_is)
    (case z10 => k_is)
    (case z11 => k_is)
    (case z12 => k_is)
    (case z13 => k_is)
    (case z14 => k_is)
    (case z15 => k_is)
    (case z16 => k_is)
    (case z17 => k_is)
    (case z18 => k_is)
    (case z19 => k_is)
    (case z20 => k_is)
