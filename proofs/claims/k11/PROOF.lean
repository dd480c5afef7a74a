import PyProof.Rows.All
import HandS.ForMost
import HandS.Exc
import HandS.TryOnly
import HandS.ExcOwn
import HandS.ExcIs
import HandS.WordsExc
import HandS.IsInst
import HandS.Wide
import HandS.TupMul
import HandS.Lambda
import HandS.Zip
import KE.GoesZip
import KE.GoesMore
import HandS.Gcd
import KE.DataMinKey
import KE.SortKeyHeap
import HandS.Conv
import HandS.Iter
import HandS.DictComp
import PySem.Challenge.RW_wholecut_k11_halves
import HandS.EndTab
import Wide.All
import OpenK.AllK
import Wide.FinOn
set_option Elab.async false
set_option linter.all false
set_option maxRecDepth 100000
/-! Values by their data: what stands at a value in an abstract heap; states by the data of their slots. -/
namespace Fn
open PySem PySem.Spec L2

abbrev D := PyData
/-- a list that is only read (the script, a module's own) -/
abbrev D.ro (ds : List D) : D := .dict [(.none, .list ds)]
/-- a dict of whole numbers -/
abbrev D.dc (kvs : List (Int × Int)) : D := .dict ((.bool false, .none) :: kvs.map fun p => (.int p.1, .int p.2))
/-- the reference itself, whatever stands there -/
abbrev D.ad (a : Addr) : D := .dict [(.str Str.empty, .int (Int.ofNat a))]
/-- an instance of the k-th class -/
abbrev D.ob (k : Nat) (gs : List (D × D)) : D := .dict ((.bool true, .int k) :: gs)

section rep
variable (K : PySem.W.Frag) (cls : Nat → Addr)
mutual
inductive Rep (H : Hp) : V → D → Prop
  | non : Rep H .non .none
  | bl (b : Bool) : Rep H (.bl b) (.bool b)
  | int (i : Int) : Rep H (.int i) (.int i)
  | str (x : Str) : Rep H (.str x) (.str x)
  | ls {a : Addr} {xs : List V} {ds : List D} : H a = some (.lst xs) → RepL H xs ds → Rep H (.ref a) (.list ds)
  | ro {a : Addr} {xs : List V} {ds : List D} : SqL K H a xs → RepL H xs ds → Rep H (.ref a) (D.ro ds)
  | tp {a : Addr} {xs : List V} {ds : List D} : SqT K H a xs → RepL H xs ds → Rep H (.ref a) (.tuple ds)
  | ob {a dx : Addr} {k : Nat} {fs : List (Str × V)} {gs : List (D × D)} : H a = some (.ins (cls k) dx fs) → RepF H fs gs → Rep H (.ref a) (D.ob k gs)
  | dc {a : Addr} {kvs : List (Int × Int)} : H a = some (.dK (kvs.map fun p => (Sum.inl p.1, V.int p.2))) → Rep H (.ref a) (D.dc kvs)
  | ad (a : Addr) : Rep H (.ref a) (D.ad a)
inductive RepL (H : Hp) : List V → List D → Prop
  | nil : RepL H [] []
  | cons {v : V} {vs : List V} {d : D} {ds : List D} : Rep H v d → RepL H vs ds → RepL H (v :: vs) (d :: ds)
inductive RepF (H : Hp) : List (Str × V) → List (D × D) → Prop
  | nil : RepF H [] []
  | cons {n : Str} {v : V} {vs : List (Str × V)} {d : D} {ds : List (D × D)} : Rep H v d → RepF H vs ds → RepF H ((n, v) :: vs) ((.str n, d) :: ds)
end
end rep

theorem Same.tup {K : PySem.W.Frag} {H H' : Hp} {a : Addr} {xs : List V} (e : Same H H') (h : SqT K H a xs) : SqT K H' a xs := by
  rcases h with (h | ⟨o, h⟩) | h
  · exact .inl (.inl (e _ _ h))
  · exact .inl (.inr ⟨o, e _ _ h⟩)
  · exact .inr h

section
variable {K : PySem.W.Frag} {cls : Nat → Addr} {F F' : Hp}
mutual
theorem Rep.mono (e : Same F F') : ∀ {v : V} {d : D}, Rep K cls F v d → Rep K cls F' v d
  | _, _, .non => .non
  | _, _, .bl b => .bl b
  | _, _, .int i => .int i
  | _, _, .str x => .str x
  | _, _, .ls h r => .ls (e _ _ h) (RepL.mono e r)
  | _, _, .ro h r => .ro (e.seq h) (RepL.mono e r)
  | _, _, .tp h r => .tp (Same.tup e h) (RepL.mono e r)
  | _, _, .ob h r => .ob (e _ _ h) (RepF.mono e r)
  | _, _, .dc h => .dc (e _ _ h)
  | _, _, .ad a => .ad a
theorem RepL.mono (e : Same F F') : ∀ {vs : List V} {ds : List D}, RepL K cls F vs ds → RepL K cls F' vs ds
  | _, _, .nil => .nil
  | _, _, .cons h r => .cons (Rep.mono e h) (RepL.mono e r)
theorem RepF.mono (e : Same F F') : ∀ {vs : List (Str × V)} {ds : List (D × D)}, RepF K cls F vs ds → RepF K cls F' vs ds
  | _, _, .nil => .nil
  | _, _, .cons h r => .cons (Rep.mono e h) (RepF.mono e r)
end
end
section
variable {K : PySem.W.Frag} {cls : Nat → Addr} {F : Hp}
theorem RepL.length : ∀ {vs : List V} {ds : List D}, RepL K cls F vs ds → vs.length = ds.length
  | _, _, .nil => rfl
  | _, _, .cons _ t => by rw [List.length_cons, List.length_cons, RepL.length t]
theorem RepL.get : ∀ {vs : List V} {ds : List D} {i : Nat} {d : D}, RepL K cls F vs ds → ds[i]? = some d → ∃ v, vs[i]? = some v ∧ Rep K cls F v d
  | _, _, _, _, .nil, h => by simp at h
  | _, _, 0, _, .cons r _, h => by simp at h; subst h; exact ⟨_, rfl, r⟩
  | _, _, i + 1, _, .cons _ t, h => by
    obtain ⟨v, h1, h2⟩ := RepL.get (i := i) t (by simpa using h)
    exact ⟨v, by simpa using h1, h2⟩
theorem RepL.getV : ∀ {vs : List V} {ds : List D} {i : Nat} {v : V}, RepL K cls F vs ds → vs[i]? = some v → ∃ d, ds[i]? = some d ∧ Rep K cls F v d
  | _, _, _, _, .nil, h => by simp at h
  | _, _, 0, _, .cons r _, h => by simp at h; subst h; exact ⟨_, rfl, r⟩
  | _, _, i + 1, _, .cons _ t, h => by
    obtain ⟨v, h1, h2⟩ := RepL.getV (i := i) t (by simpa using h)
    exact ⟨v, by simpa using h1, h2⟩
theorem RepL.append : ∀ {xs ys : List V} {ds es : List D}, RepL K cls F xs ds → RepL K cls F ys es → RepL K cls F (xs ++ ys) (ds ++ es)
  | _, _, _, _, .nil, s => s
  | _, _, _, _, .cons r t, s => .cons r (RepL.append t s)
theorem RepL.take : ∀ (n : Nat) {xs : List V} {ds : List D}, RepL K cls F xs ds → RepL K cls F (xs.take n) (ds.take n)
  | 0, _, _, _ => by rw [List.take_zero, List.take_zero]; exact .nil
  | _ + 1, _, _, .nil => by rw [List.take_nil, List.take_nil]; exact .nil
  | n + 1, _, _, .cons r t => .cons r (RepL.take n t)
theorem RepL.drop : ∀ (n : Nat) {xs : List V} {ds : List D}, RepL K cls F xs ds → RepL K cls F (xs.drop n) (ds.drop n)
  | 0, _, _, r => r
  | _ + 1, _, _, .nil => by rw [List.drop_nil, List.drop_nil]; exact .nil
  | n + 1, _, _, .cons _ t => RepL.drop n t
theorem RepL.set (i : Nat) {v : V} {d : D} (r : Rep K cls F v d) : ∀ {xs : List V} {ds : List D}, RepL K cls F xs ds → RepL K cls F (xs.set i v) (ds.set i d)
  | _, _, .nil => .nil
  | _, _, .cons q t => by
    cases i with
    | zero => exact .cons r t
    | succ j => exact .cons q (RepL.set j r t)
theorem RepL.rep {xs : List V} {ds : List D} (h : RepL K cls F xs ds) : ∀ k : Nat, RepL K cls F (List.replicate k xs).flatten (List.replicate k ds).flatten
  | 0 => .nil
  | k + 1 => by
    rw [List.replicate_succ, List.replicate_succ, List.flatten_cons, List.flatten_cons]
    exact RepL.append h (RepL.rep h k)
theorem RepL.reverse : ∀ {xs : List V} {ds : List D}, RepL K cls F xs ds → RepL K cls F xs.reverse ds.reverse
  | _, _, .nil => .nil
  | _, _, .cons r t => by
    rw [List.reverse_cons, List.reverse_cons]
    exact RepL.append (RepL.reverse t) (.cons r .nil)
theorem RepL.ints : ∀ (ns : List Int), RepL K cls F (ns.map V.int) (ns.map PyData.int)
  | [] => .nil
  | n :: ns => .cons (.int n) (RepL.ints ns)
theorem RepL.of_ints : ∀ {vs : List V} (ns : List Int), RepL K cls F vs (ns.map PyData.int) → vs = ns.map V.int
  | _, [], h => by cases h; rfl
  | _, n :: ns, h => by
    cases h with
    | cons r t =>
      cases r
      rw [RepL.of_ints ns t]
      rfl
theorem RepL.of_bls : ∀ {vs : List V} (ns : List Bool), RepL K cls F vs (ns.map PyData.bool) → vs = ns.map V.bl
  | _, [], h => by cases h; rfl
  | _, n :: ns, h => by
    cases h with
    | cons r t =>
      cases r
      rw [RepL.of_bls ns t]
      rfl
end
/-- the field n of an instance's data -/
def fieldD (n : Str) : List (D × D) → Option D
  | [] => none
  | (.str m, d) :: r => if n == m then some d else fieldD n r
  | _ :: r => fieldD n r
section
variable {K : PySem.W.Frag} {cls : Nat → Addr} {F : Hp}
theorem RepF.lookup {n : Str} : ∀ {fs : List (Str × V)} {gs : List (D × D)} {d : D}, RepF K cls F fs gs → fieldD n gs = some d → ∃ v, fs.lookup n = some v ∧ Rep K cls F v d
  | _, _, _, .nil, h => by unfold fieldD at h; cases h
  | _, _, d, .cons (n := m) (v := v) (d := d') r t, h => by
    unfold fieldD at h
    rw [List.lookup_cons]
    cases e : n == m with
    | true =>
      rw [e, if_pos rfl] at h
      cases h
      exact ⟨v, rfl, r⟩
    | false =>
      rw [e, if_neg Bool.false_ne_true] at h
      exact RepF.lookup t h
end

/-! no instance, no read-only list within -/
mutual
def plainD : D → Bool
  | .none | .bool _ | .int _ | .str _ => true
  | .list xs | .tuple xs => plainAll xs
  | .dict _ => false
def plainAll : List D → Bool
  | [] => true
  | x :: xs => plainD x && plainAll xs
end
section
variable {K : PySem.W.Frag} {cls : Nat → Addr} {F : Hp}
mutual
theorem Rep.dp : ∀ {v : V} {d : D}, Rep K cls F v d → plainD d = true → Dp K F v d
  | _, _, .non, _ => .non
  | _, _, .bl b, _ => .bl b
  | _, _, .int i, _ => .int i
  | _, _, .str x, _ => .str x
  | _, _, .ls h r, p => .lst (SqL.of h) (RepL.dp r p)
  | _, _, .tp h r, p => .tup h (RepL.dp r p)
  | _, _, .ro _ _, p => by unfold plainD at p; cases p
  | _, _, .ob _ _, p => by unfold plainD at p; cases p
  | _, _, .dc _, p => by unfold plainD at p; cases p
  | _, _, .ad _, p => by unfold plainD at p; cases p
theorem RepL.dp : ∀ {vs : List V} {ds : List D}, RepL K cls F vs ds → plainAll ds = true → DpAll K F vs ds
  | _, _, .nil, _ => .nil
  | _, _, .cons r t, p => by
    unfold plainAll at p
    rw [Bool.and_eq_true] at p
    exact .cons (Rep.dp r p.1) (RepL.dp t p.2)
end
end

/-! ### heaps -/
/-- F (what never changes) and H (all that is tracked) have grown -/
structure Ext (F H F' H' : Hp) : Prop where
  f : Same F F'
  h : Same H H'
  s : Same F' H'
  n : ∀ a o, F' a = some o → F a = some o ∨ H a = none
  t : ∀ a ps, F' a = some (.tbl ps) → F a = some (.tbl ps)
/-- no table -/
def NT : HO → Prop
  | .tbl _ => False
  | _ => True
theorem Ext.refl {F H : Hp} (s : Same F H) : Ext F H F H := ⟨Same.refl _, Same.refl _, s, fun _ _ e => .inl e, fun _ _ e => e⟩
theorem Ext.trans {F H F1 H1 F2 H2 : Hp} (a : Ext F H F1 H1) (b : Ext F1 H1 F2 H2) : Ext F H F2 H2 :=
  ⟨a.f.trans b.f, a.h.trans b.h, b.s, fun x o e => (b.n x o e).elim (fun q => a.n x o q) fun q => .inr (a.h.free q), fun x ps e => a.t x ps (b.t x ps e)⟩
theorem same_upd {H : Hp} {p : Addr} {o : HO} (h : H p = none) : Same H (upd H p o) := fun b x e => by
  rw [upd_ne (ne_of_none e h)]
  exact e
theorem Same.free2 {F H : Hp} (s : Same F H) {p : Addr} (h : H p = none) : F p = none := s.free h
theorem upd_some {H : Hp} {p a : Addr} {o u : HO} (h : upd H p o a = some u) : (a = p ∧ u = o) ∨ (a ≠ p ∧ H a = some u) := by
  by_cases e : a = p
  · subst e
    rw [upd_same] at h
    exact .inl ⟨rfl, (Option.some.inj h).symm⟩
  · rw [upd_ne e] at h
    exact .inr ⟨e, h⟩
/-- a new object for good -/
theorem Ext.new {F H : Hp} {p : Addr} {o : HO} (s : Same F H) (h : H p = none) (nt : NT o := by trivial) : Ext F H (upd F p o) (upd H p o) :=
  ⟨same_upd (s.free h), same_upd h, fun b x e => by
    rcases upd_some e with ⟨rfl, rfl⟩ | ⟨n, e⟩
    · exact upd_same
    · rw [upd_ne n]; exact s _ _ e, fun a x e => by
    rcases upd_some e with ⟨rfl, rfl⟩ | ⟨n, e⟩
    · exact .inr h
    · exact .inl e, fun a ps e => by
    rcases upd_some e with ⟨_, z⟩ | ⟨n, e⟩
    · subst z; exact nt.elim
    · exact e⟩
/-- a new object that may change -/
theorem Ext.newO {F H : Hp} {p : Addr} {o : HO} (s : Same F H) (h : H p = none) : Ext F H F (upd H p o) :=
  ⟨Same.refl _, same_upd h, s.trans (same_upd h), fun _ _ e => .inl e, fun _ _ e => e⟩
/-- what stood in H alone is made to stay -/
theorem Ext.keep {F H F' H' : Hp} {p : Addr} {o : HO} (e : Ext F H F' H') (h : H p = none) (h' : H' p = some o) (nt : NT o := by trivial) : Ext F H (upd F' p o) H' := by
  refine ⟨fun b x q => ?_, e.h, fun b x q => ?_, fun a x q => ?_, fun a ps q => ?_⟩
  · by_cases z : b = p
    · subst z
      have := e.h
      have q' := e.s _ _ (e.f _ _ q)
      rw [h'] at q'
      cases q'
      exact upd_same
    · rw [upd_ne z]; exact e.f _ _ q
  · rcases upd_some q with ⟨rfl, rfl⟩ | ⟨n, q⟩
    · exact h'
    · exact e.s _ _ q
  · rcases upd_some q with ⟨rfl, rfl⟩ | ⟨n, q⟩
    · exact .inr h
    · exact e.n _ _ q
  · rcases upd_some q with ⟨_, z⟩ | ⟨n, q⟩
    · subst z; exact nt.elim
    · exact e.t _ _ q

/-- a changed list is no table -/
theorem tabs_updL {T : List (Addr × Str)} {H : Hp} {a : Addr} {xs ys : List V} (h : H a = some (.lst xs)) (t : LamX.Tabs T H) : LamX.Tabs T (upd H a (.lst ys)) := fun p hp => by
  obtain ⟨ps, h1, h2, h3⟩ := t p hp
  have n1 : p.1 ≠ a := fun z => by rw [z, h] at h1; cases h1
  refine ⟨ps, by rw [upd_ne n1]; exact h1, h2, fun pos cv hc => ?_⟩
  obtain ⟨c, e1, e2⟩ := h3 pos cv hc
  have n2 : c ≠ a := fun z => by
    rw [z, h] at e2
    unfold LamX.CodeO at e2
    cases e2
  exact ⟨c, e1, by rw [upd_ne n2]; exact e2⟩
/-! ### states -/
abbrev Rho := List (Option D)
section
variable (K : PySem.W.Frag) (cls : Nat → Addr)
/-- slot i owns its list: it stands in H alone -/
def Ow (H0 : Hp) (σ : St) (H F : Hp) (i : Nat) (d : D) : Prop :=
  ∃ a xs ds, d = .list ds ∧ σ[i]? = some (some (V.ref a)) ∧ H a = some (.lst xs) ∧ RepL K cls F xs ds ∧ F a = none ∧ H0 a = none
structure Sim (B : Hp × Hp × List (Addr × Str)) (own : List Nat) (σ : St) (H F : Hp) (ρ : Rho) : Prop where
  b : Ext B.2.1 B.1 F H
  len : σ.length = ρ.length
  fro : ∀ i d, i ∉ own → ρ[i]? = some (some d) → ∃ v, σ[i]? = some (some v) ∧ Rep K cls F v d
  ow : ∀ i d, i ∈ own → ρ[i]? = some (some d) → Ow K cls B.1 σ H F i d
  sep : ∀ i j d e a, i ∈ own → j ∈ own → i ≠ j → ρ[i]? = some (some d) → ρ[j]? = some (some e) → σ[i]? = some (some (V.ref a)) → σ[j]? = some (some (V.ref a)) → False
  tb : LamX.Tabs B.2.2 H
  ft : ∀ p ∈ B.2.2, F p.1 = none
end
section
variable {K : PySem.W.Frag} {cls : Nat → Addr} {B : Hp × Hp × List (Addr × Str)} {own : List Nat} {σ : St} {H F H' F' : Hp} {ρ : Rho}
theorem Sim.s (S : Sim K cls B own σ H F ρ) : Same F H := S.b.s
theorem Sim.ext (S : Sim K cls B own σ H F ρ) (e : Ext F H F' H') : Sim K cls B own σ H' F' ρ where
  b := S.b.trans e
  len := S.len
  fro := fun i d hi h => by
    obtain ⟨v, h1, h2⟩ := S.fro i d hi h
    exact ⟨v, h1, h2.mono e.f⟩
  ow := fun i d hi h => by
    obtain ⟨a, xs, ds, h1, h2, h3, h4, h5, h6⟩ := S.ow i d hi h
    refine ⟨a, xs, ds, h1, h2, e.h _ _ h3, h4.mono e.f, ?_, h6⟩
    cases q : F' a with
    | none => rfl
    | some o =>
      rcases e.n a o q with z | z
      · rw [h5] at z; cases z
      · rw [h3] at z; cases z
  sep := S.sep
  tb := S.tb.ext e.h
  ft := fun p hp => by
    cases q : F' p.1 with
    | none => rfl
    | some o =>
      obtain ⟨ps, h1, _⟩ := S.tb p hp
      rcases e.n _ o q with z | z
      · rw [S.ft p hp] at z; cases z
      · rw [h1] at z; cases z
theorem get_set_ne {α : Type} {l : List α} {i j : Nat} {x : α} (h : i ≠ j) : (l.set i x)[j]? = l[j]? := List.getElem?_set_ne h
theorem get_set {α : Type} {l : List α} {i : Nat} {x y : α} (h : (l.set i x)[i]? = some y) : y = x ∧ i < l.length := by
  by_cases hl : i < l.length
  · rw [List.getElem?_set_self hl] at h
    exact ⟨(Option.some.inj h).symm, hl⟩
  · rw [List.getElem?_eq_none (by rw [List.length_set]; omega)] at h
    cases h
theorem Sim.set (S : Sim K cls B own σ H F ρ) (i : Nat) {v : V} {d : D} (r : Rep K cls F v d) : Sim K cls B (own.filter fun j => j != i) (σ.set i (some v)) H F (ρ.set i (some d)) where
  b := S.b
  len := by rw [List.length_set, List.length_set]; exact S.len
  fro := fun j e hj h => by
    by_cases q : i = j
    · subst q
      obtain ⟨h1, h2⟩ := get_set h
      cases h1
      exact ⟨v, by rw [List.getElem?_set_self (by rw [S.len]; exact h2)], r⟩
    · rw [get_set_ne q] at h ⊢
      exact S.fro j e (fun z => hj (List.mem_filter.mpr ⟨z, by simpa using fun z => q z.symm⟩)) h
  ow := fun j e hj h => by
    obtain ⟨h1, h2⟩ := List.mem_filter.mp hj
    have q : i ≠ j := fun z => by subst z; simp at h2
    rw [get_set_ne q] at h
    obtain ⟨a, xs, ds, k1, k2, k3⟩ := S.ow j e h1 h
    exact ⟨a, xs, ds, k1, by rw [get_set_ne q]; exact k2, k3⟩
  sep := fun j k e f a hj hk hne h1 h2 h3 h4 => by
    obtain ⟨m1, n1⟩ := List.mem_filter.mp hj
    obtain ⟨m2, n2⟩ := List.mem_filter.mp hk
    have q1 : i ≠ j := fun z => by subst z; simp at n1
    have q2 : i ≠ k := fun z => by subst z; simp at n2
    rw [get_set_ne q1] at h1 h3
    rw [get_set_ne q2] at h2 h4
    exact S.sep j k e f a m1 m2 hne h1 h2 h3 h4
  tb := S.tb
  ft := S.ft
/-- slot i now owns a list that no other slot owns -/
theorem Sim.setO (S : Sim K cls B own σ H F ρ) (i : Nat) {a : Addr} {xs : List V} {ds : List D} (h : H a = some (.lst xs)) (r : RepL K cls F xs ds) (hf : F a = none) (h0 : B.1 a = none)
    (apart : ∀ j b d, j ∈ own → j ≠ i → ρ[j]? = some (some d) → σ[j]? = some (some (V.ref b)) → b ≠ a) : Sim K cls B (i :: own.filter fun j => j != i) (σ.set i (some (.ref a))) H F (ρ.set i (some (.list ds))) where
  b := S.b
  len := by rw [List.length_set, List.length_set]; exact S.len
  fro := fun j e hj q => by
    have n1 : i ≠ j := fun z => hj (by subst z; exact List.mem_cons_self)
    rw [get_set_ne n1] at q ⊢
    exact S.fro j e (fun z => hj (List.mem_cons_of_mem _ (List.mem_filter.mpr ⟨z, by simpa using fun z => n1 z.symm⟩))) q
  ow := fun j e hj q => by
    by_cases n1 : i = j
    · subst n1
      obtain ⟨h1, h2⟩ := get_set q
      cases h1
      exact ⟨a, xs, ds, rfl, by rw [List.getElem?_set_self (by rw [S.len]; exact h2)], h, r, hf, h0⟩
    · have hj' : j ∈ own := by
        rcases List.mem_cons.mp hj with z | z
        · exact absurd z.symm n1
        · exact (List.mem_filter.mp z).1
      rw [get_set_ne n1] at q
      obtain ⟨b, ys, es, k1, k2, k3⟩ := S.ow j e hj' q
      exact ⟨b, ys, es, k1, by rw [get_set_ne n1]; exact k2, k3⟩
  sep := fun j k e f c hj hk hne h1 h2 h3 h4 => by
    have mem : ∀ {j}, j ∈ i :: own.filter (fun j => j != i) → i ≠ j → j ∈ own := fun {j} hj n1 => by
      rcases List.mem_cons.mp hj with z | z
      · exact absurd z.symm n1
      · exact (List.mem_filter.mp z).1
    by_cases n1 : i = j
    · subst n1
      rw [get_set_ne hne] at h2 h4
      obtain ⟨z1, z2⟩ := get_set h3
      cases z1
      exact apart k _ _ (mem hk hne) (Ne.symm hne) h2 h4 rfl
    · by_cases n2 : i = k
      · subst n2
        rw [get_set_ne n1] at h1 h3
        obtain ⟨z1, z2⟩ := get_set h4
        cases z1
        exact apart j _ _ (mem hj n1) (Ne.symm n1) h1 h3 rfl
      · rw [get_set_ne n1] at h1 h3
        rw [get_set_ne n2] at h2 h4
        exact S.sep j k e f c (mem hj n1) (mem hk n2) hne h1 h2 h3 h4
  tb := S.tb
  ft := S.ft
/-- an owned list changes -/
theorem Sim.mut (S : Sim K cls B own σ H F ρ) {i : Nat} (hi : i ∈ own) {ds : List D} (h : ρ[i]? = some (some (.list ds))) :
    ∃ a xs, σ[i]? = some (some (V.ref a)) ∧ H a = some (.lst xs) ∧ RepL K cls F xs ds ∧ ∀ ys es, RepL K cls F ys es → Sim K cls B own σ (upd H a (.lst ys)) F (ρ.set i (some (.list es))) := by
  obtain ⟨a, xs, ds', e, k2, k3, k4, k5, k6⟩ := S.ow i _ hi h
  cases e
  refine ⟨a, xs, k2, k3, k4, fun ys es r => ?_⟩
  have iy : i < ρ.length := by
    by_cases q : i < ρ.length
    · exact q
    · rw [List.getElem?_eq_none (by omega)] at h; cases h
  have sFH : Same F (upd H a (.lst ys)) := fun b o q => by
    have : b ≠ a := fun z => by rw [z, k5] at q; cases q
    rw [upd_ne this]; exact S.s _ _ q
  refine ⟨⟨S.b.f, fun b o q => ?_, sFH, S.b.n, S.b.t⟩, by rw [List.length_set]; exact S.len, fun j e hj q => ?_, fun j e hj q => ?_, fun j k e f c hj hk hne h1 h2 h3 h4 => ?_, tabs_updL k3 S.tb, S.ft⟩
  · have : b ≠ a := fun z => by rw [z, k6] at q; cases q
    rw [upd_ne this]; exact S.b.h _ _ q
  · have n1 : i ≠ j := fun z => hj (by subst z; exact hi)
    rw [get_set_ne n1] at q
    exact S.fro j e hj q
  · by_cases n1 : i = j
    · subst n1
      obtain ⟨z, _⟩ := get_set q
      cases z
      exact ⟨a, ys, es, rfl, k2, upd_same, r, k5, k6⟩
    · rw [get_set_ne n1] at q
      obtain ⟨b, zs, fs, m1, m2, m3, m4⟩ := S.ow j e hj q
      have : b ≠ a := fun z => by
        subst z
        exact S.sep i j _ _ b hi hj n1 h q k2 m2
      exact ⟨b, zs, fs, m1, m2, by rw [upd_ne this]; exact m3, m4⟩
  · have ex : ∀ {j e}, (ρ.set i (some (.list es)))[j]? = some (some e) → ∃ e', ρ[j]? = some (some e') := fun {j e} q => by
      by_cases n1 : i = j
      · subst n1; exact ⟨_, h⟩
      · rw [get_set_ne n1] at q; exact ⟨_, q⟩
    obtain ⟨e', q1⟩ := ex h1
    obtain ⟨f', q2⟩ := ex h2
    exact S.sep j k e' f' c hj hk hne q1 q2 h3 h4
/-- an owned list stays from here on as it is -/
theorem Sim.freeze (S : Sim K cls B own σ H F ρ) (i : Nat) : ∃ F', Same F F' ∧ Sim K cls B (own.filter fun j => j != i) σ H F' ρ := by
  by_cases hi : i ∈ own
  · cases q : ρ[i]? with
    | none =>
      refine ⟨F, Same.refl _, S.b, S.len, fun j d hj h => ?_, fun j d hj h => S.ow j d (List.mem_filter.mp hj).1 h, fun j k e f a hj hk hne h1 h2 h3 h4 => S.sep j k e f a (List.mem_filter.mp hj).1 (List.mem_filter.mp hk).1 hne h1 h2 h3 h4, S.tb, S.ft⟩
      by_cases e : i = j
      · subst e; rw [q] at h; cases h
      · exact S.fro j d (fun z => hj (List.mem_filter.mpr ⟨z, by simpa using fun z => e z.symm⟩)) h
    | some o =>
      cases o with
      | none =>
        refine ⟨F, Same.refl _, S.b, S.len, fun j d hj h => ?_, fun j d hj h => S.ow j d (List.mem_filter.mp hj).1 h, fun j k e f a hj hk hne h1 h2 h3 h4 => S.sep j k e f a (List.mem_filter.mp hj).1 (List.mem_filter.mp hk).1 hne h1 h2 h3 h4, S.tb, S.ft⟩
        by_cases e : i = j
        · subst e; rw [q] at h; cases h
        · exact S.fro j d (fun z => hj (List.mem_filter.mpr ⟨z, by simpa using fun z => e z.symm⟩)) h
      | some d =>
        obtain ⟨a, xs, ds, e, k2, k3, k4, k5, k6⟩ := S.ow i _ hi q
        cases e
        refine ⟨upd F a (.lst xs), same_upd k5, S.b.keep k6 k3, S.len, fun j d hj h => ?_, fun j d hj h => ?_, fun j k e f c hj hk hne h1 h2 h3 h4 => S.sep j k e f c (List.mem_filter.mp hj).1 (List.mem_filter.mp hk).1 hne h1 h2 h3 h4, S.tb, fun p hp => ?_⟩
        · by_cases e : i = j
          · subst e
            rw [q] at h
            cases h
            exact ⟨_, k2, .ls upd_same (k4.mono (same_upd k5))⟩
          · obtain ⟨v, h1, h2⟩ := S.fro j d (fun z => hj (List.mem_filter.mpr ⟨z, by simpa using fun z => e z.symm⟩)) h
            exact ⟨v, h1, h2.mono (same_upd k5)⟩
        · obtain ⟨m, n⟩ := List.mem_filter.mp hj
          have ne : i ≠ j := fun z => by subst z; simp at n
          obtain ⟨b, zs, fs, m1, m2, m3, m4, m5, m6⟩ := S.ow j d m h
          have ab : b ≠ a := fun z => by
            subst z
            exact S.sep i j _ _ b hi m ne q h k2 m2
          exact ⟨b, zs, fs, m1, m2, m3, m4.mono (same_upd k5), by rw [upd_ne ab]; exact m5, m6⟩
        · obtain ⟨ps, h1, _⟩ := S.tb p hp
          have : p.1 ≠ a := fun z => by rw [z, k3] at h1; cases h1
          rw [upd_ne this]
          exact S.ft p hp
  · refine ⟨F, Same.refl _, ?_⟩
    have e : own.filter (fun j => j != i) = own := List.filter_eq_self.mpr fun j hj => by
      have : j ≠ i := fun z => hi (z ▸ hj)
      simpa using this
    rw [e]
    exact S
/-- fewer owned slots -/
theorem Sim.freezeAll : ∀ (is : List Nat) {own : List Nat} {F : Hp}, Sim K cls B own σ H F ρ → ∃ F', Same F F' ∧ Sim K cls B (own.filter fun j => !is.contains j) σ H F' ρ
  | [], own, F, S => ⟨F, Same.refl _, by
      have e : own.filter (fun j => !([] : List Nat).contains j) = own := List.filter_eq_self.mpr fun j _ => rfl
      rw [e]; exact S⟩
  | i :: is, own, F, S => by
    obtain ⟨F1, s1, S1⟩ := S.freeze i
    obtain ⟨F2, s2, S2⟩ := Sim.freezeAll is S1
    refine ⟨F2, s1.trans s2, ?_⟩
    have e : (own.filter fun j => j != i).filter (fun j => !is.contains j) = own.filter fun j => !(i :: is).contains j := by
      rw [List.filter_filter]
      congr 1
      funext j
      rw [List.contains_cons]
      cases h : j == i <;> cases h2 : is.contains j <;> simp_all [bne]
    rw [← e]
    exact S2
/-- the same owned slots, otherwise written -/
theorem Sim.perm {own' : List Nat} (S : Sim K cls B own σ H F ρ) (h : ∀ i, i ∈ own ↔ i ∈ own') : Sim K cls B own' σ H F ρ :=
  ⟨S.b, S.len, fun i d hi => S.fro i d fun z => hi ((h i).mp z), fun i d hi => S.ow i d ((h i).mpr hi), fun i j d e a hi hj => S.sep i j d e a ((h i).mpr hi) ((h j).mpr hj), S.tb, S.ft⟩
theorem Sim.shrink {own' : List Nat} (S : Sim K cls B own σ H F ρ) (h : ∀ i, i ∈ own' → i ∈ own) : ∃ F', Same F F' ∧ Sim K cls B own' σ H F' ρ := by
  obtain ⟨F', s, S'⟩ := S.freezeAll (own.filter fun i => !own'.contains i)
  refine ⟨F', s, S'.perm fun i => ⟨fun z => ?_, fun z => ?_⟩⟩
  · obtain ⟨a, b⟩ := List.mem_filter.mp z
    by_cases q : i ∈ own'
    · exact q
    · exfalso
      have : i ∈ own.filter fun i => !own'.contains i := List.mem_filter.mpr ⟨a, by simpa using q⟩
      rw [List.contains_iff_mem.mpr this] at b
      cases b
  · refine List.mem_filter.mpr ⟨h i z, ?_⟩
    cases q : (own.filter fun i => !own'.contains i).contains i with
    | false => rfl
    | true =>
      have := (List.mem_filter.mp (List.contains_iff_mem.mp q)).2
      rw [List.contains_iff_mem.mpr z] at this
      cases this
/-- forget what stands in slot i -/
theorem Sim.forget (S : Sim K cls B own σ H F ρ) (i : Nat) (u : Option V) : Sim K cls B own (σ.set i u) H F (ρ.set i none) := by
  have ne : ∀ {j e}, (ρ.set i none)[j]? = some (some e) → i ≠ j := fun {j e} q z => by
    subst z
    obtain ⟨z, _⟩ := get_set q
    cases z
  refine ⟨S.b, by rw [List.length_set, List.length_set]; exact S.len, fun j e hj q => ?_, fun j e hj q => ?_, fun j k e f c hj hk hne h1 h2 h3 h4 => ?_, S.tb, S.ft⟩
  · have n := ne q
    rw [get_set_ne n] at q ⊢
    exact S.fro j e hj q
  · have n := ne q
    rw [get_set_ne n] at q
    obtain ⟨a, xs, ds, m1, m2, m3⟩ := S.ow j e hj q
    exact ⟨a, xs, ds, m1, by rw [get_set_ne n]; exact m2, m3⟩
  · have n1 := ne h1
    have n2 := ne h2
    rw [get_set_ne n1] at h1 h3
    rw [get_set_ne n2] at h2 h4
    exact S.sep j k e f c hj hk hne h1 h2 h3 h4
end
end Fn

set_option Elab.async false
set_option linter.all false
set_option maxRecDepth 100000
/-! Expressions by the data that they give. -/
namespace Fn
open PySem PySem.Spec L2

/-- what comes of it: a value, an error of the n-th class, or nothing is said -/
inductive O (α : Type) where
  | ok (a : α) | ex (n : Nat) | bad
def O.bind {α β : Type} : O α → (α → O β) → O β
  | .ok a, f => f a
  | .ex n, _ => .ex n
  | .bad, _ => .bad
theorem O.bind_ok {α β : Type} (a : α) (f : α → O β) : O.bind (.ok a) f = f a := rfl
theorem O.bind_ex {α β : Type} (n : Nat) (f : α → O β) : O.bind (.ex n) f = .ex n := rfl
theorem O.bind_bad {α β : Type} (f : α → O β) : O.bind .bad f = .bad := rfl
def OPost {α : Type} (P : α → Prop) (E : Nat → Prop) : O α → Prop
  | .ok a => P a
  | .ex n => E n
  | .bad => False
theorem OPost.imp {α : Type} {P P' : α → Prop} {E E' : Nat → Prop} (h1 : ∀ a, P a → P' a) (h2 : ∀ n, E n → E' n) : ∀ {o : O α}, OPost P E o → OPost P' E' o
  | .ok a, h => h1 a h
  | .ex n, h => h2 n h
  | .bad, h => h
theorem OPost.bind {α β : Type} {P : β → Prop} {E : Nat → Prop} {f : α → O β} : ∀ {o : O α}, OPost P E (o.bind f) → OPost (fun a => OPost P E (f a)) E o
  | .ok _, h => h
  | .ex _, h => h
  | .bad, h => h

structure Ct where
  cls : Nat → Addr
  xc : Nat → Addr
  W : WX
  B : Hp × Hp × List (Addr × Str)
  fr : Bool

section
variable (K : PySem.W.Frag) (c : Ct)
/-- as Rep, or a list that stands in H alone, its items in F -/
def Rep1 (F H : Hp) (v : V) (d : D) : Prop := Rep K c.cls F v d ∨ ∃ a xs ds, v = .ref a ∧ d = .list ds ∧ H a = some (.lst xs) ∧ RepL K c.cls F xs ds
def RepB : Bool → Hp → Hp → V → D → Prop
  | true => fun F _ => Rep K c.cls F
  | false => Rep1 K c
def RepBL : Bool → Hp → Hp → List V → List D → Prop
  | true => fun F _ => RepL K c.cls F
  | false => fun F H => Paired (Rep1 K c F H)
def EP1 (b : Bool) (σ : St) (F H : Hp) (Q : VK) : O D → Prop := OPost (fun d => ∀ v H' F', Ext F H F' H' → RepB K c b F' H' v d → Q v H') fun n => ∀ H', Same H H' → c.W (.ref (c.xc n)) none σ H'
def TP1 (σ : St) (F H : Hp) (Q : Bool → Hp → Prop) : O Bool → Prop := OPost (fun k => ∀ H' F', Ext F H F' H' → Q k H') fun n => ∀ H', Same H H' → c.W (.ref (c.xc n)) none σ H'
def AP1 (b : Bool) (σ : St) (F H : Hp) (Q : List V → Hp → Prop) : O (List D) → Prop := OPost (fun ds => ∀ vs H' F', Ext F H F' H' → RepBL K c b F' H' vs ds → Q vs H') fun n => ∀ H', Same H H' → c.W (.ref (c.xc n)) none σ H'
def FE (own : List Nat) (b : Bool) (t : TE) (g : Rho → O D) : Prop := ∀ σ H F ρ Q, Sim K c.cls c.B own σ H F ρ → EP1 K c b σ F H Q (g ρ) → t σ H Q
def FT (own : List Nat) (t : TT) (g : Rho → O Bool) : Prop := ∀ σ H F ρ Q, Sim K c.cls c.B own σ H F ρ → TP1 c σ F H Q (g ρ) → t σ H Q
def FA (own : List Nat) (b : Bool) (t : TA) (g : Rho → O (List D)) : Prop := ∀ σ H F ρ Q, Sim K c.cls c.B own σ H F ρ → AP1 K c b σ F H Q (g ρ) → t σ H Q
/-- a new list that stands in H alone -/
def FO (own : List Nat) (t : TE) (g : Rho → O D) : Prop := ∀ σ H F ρ Q, Sim K c.cls c.B own σ H F ρ →
  OPost (fun d => ∃ ds, d = .list ds ∧ ∀ a xs H' F', Ext F H F' H' → H' a = some (.lst xs) → F' a = none → H a = none → RepL K c.cls F' xs ds → Q (.ref a) H') (fun n => ∀ H', Same H H' → c.W (.ref (c.xc n)) none σ H') (g ρ) → t σ H Q
end

section
variable {K : PySem.W.Frag} {c : Ct} {own : List Nat} {b : Bool} {F H F' H' : Hp} {σ : St} {ρ : Rho}
theorem Rep.one {v : V} {d : D} (r : Rep K c.cls F v d) : Rep1 K c F H v d := .inl r
theorem RepB.one {v : V} {d : D} (r : RepB K c b F H v d) : Rep1 K c F H v d := by
  cases b with
  | true => exact .inl r
  | false => exact r
theorem Rep1.ext {v : V} {d : D} (r : Rep1 K c F H v d) (e : Ext F H F' H') : Rep1 K c F' H' v d := by
  rcases r with r | ⟨a, xs, ds, h1, h2, h3, h4⟩
  · exact .inl (r.mono e.f)
  · exact .inr ⟨a, xs, ds, h1, h2, e.h _ _ h3, h4.mono e.f⟩
theorem RepB.ext {v : V} {d : D} (r : RepB K c b F H v d) (e : Ext F H F' H') : RepB K c b F' H' v d := by
  cases b with
  | true => exact Rep.mono e.f r
  | false => exact Rep1.ext r e
theorem Rep1.full {v : V} {d : D} (r : Rep1 K c F H v d) (s : Same F H) : Rep K c.cls H v d := by
  rcases r with r | ⟨a, xs, ds, rfl, rfl, h3, h4⟩
  · exact r.mono s
  · exact .ls h3 (h4.mono s)
theorem Rep1.lst {v : V} {ds : List D} (r : Rep1 K c F H v (.list ds)) (s : Same F H) : ∃ a xs, v = .ref a ∧ H a = some (.lst xs) ∧ RepL K c.cls F xs ds := by
  rcases r with r | ⟨a, xs, ds', rfl, e, h3, h4⟩
  · cases r with
    | ls h r => exact ⟨_, _, rfl, s _ _ h, r⟩
  · cases e
    exact ⟨a, xs, rfl, h3, h4⟩
theorem Rep1.tup {v : V} {ds : List D} (r : Rep1 K c F H v (.tuple ds)) (s : Same F H) : ∃ a xs, v = .ref a ∧ SqT K H a xs ∧ RepL K c.cls F xs ds ∧ Rep K c.cls F v (.tuple ds) := by
  rcases r with r | ⟨a, xs, ds', rfl, e, h3, h4⟩
  · cases r with
    | tp h r => exact ⟨_, _, rfl, Same.tup s h, r, .tp h r⟩
  · cases e
theorem Rep1.roL {v : V} {ds : List D} (r : Rep1 K c F H v (D.ro ds)) (s : Same F H) : ∃ a xs, v = .ref a ∧ SqL K H a xs ∧ RepL K c.cls F xs ds := by
  rcases r with r | ⟨a, xs, ds', rfl, e, h3, h4⟩
  · cases r with
    | ro h r => exact ⟨_, _, rfl, s.seq h, r⟩
  · cases e
theorem Rep1.obj {v : V} {k : Nat} {gs : List (D × D)} (r : Rep1 K c F H v (D.ob k gs)) (s : Same F H) : ∃ a dx fs, v = .ref a ∧ H a = some (.ins (c.cls k) dx fs) ∧ RepF K c.cls F fs gs := by
  rcases r with r | ⟨a, xs, ds', rfl, e, h3, h4⟩
  · cases r with
    | ob h r => exact ⟨_, _, _, rfl, s _ _ h, r⟩
  · cases e
theorem Rep1.int {v : V} {i : Int} (r : Rep1 K c F H v (.int i)) : v = .int i := by
  rcases r with r | ⟨a, xs, ds', rfl, e, h3, h4⟩
  · cases r; rfl
  · cases e
theorem Rep1.bl {v : V} {i : Bool} (r : Rep1 K c F H v (.bool i)) : v = .bl i := by
  rcases r with r | ⟨a, xs, ds', rfl, e, h3, h4⟩
  · cases r; rfl
  · cases e
theorem Rep1.str {v : V} {i : Str} (r : Rep1 K c F H v (.str i)) : v = .str i := by
  rcases r with r | ⟨a, xs, ds', rfl, e, h3, h4⟩
  · cases r; rfl
  · cases e
theorem Rep1.non {v : V} (r : Rep1 K c F H v .none) : v = .non := by
  rcases r with r | ⟨a, xs, ds', rfl, e, h3, h4⟩
  · cases r; rfl
  · cases e
theorem Rep1.len {v : V} {d : D} (r : Rep1 K c F H v d) : True := trivial

/-- behind a step that has grown the heaps the wish is the rest of the wish -/
theorem EP1.ext {Q : VK} {o : O D} (h : EP1 K c b σ F H Q o) (e : Ext F H F' H') : EP1 K c b σ F' H' Q o :=
  OPost.imp (fun _ q v H2 F2 e2 r => q v H2 F2 (e.trans e2) r) (fun _ q H2 s => q H2 (e.h.trans s)) h
theorem TP1.ext {Q : Bool → Hp → Prop} {o : O Bool} (h : TP1 c σ F H Q o) (e : Ext F H F' H') : TP1 c σ F' H' Q o :=
  OPost.imp (fun _ q H2 F2 e2 => q H2 F2 (e.trans e2)) (fun _ q H2 s => q H2 (e.h.trans s)) h
theorem AP1.ext {Q : List V → Hp → Prop} {o : O (List D)} (h : AP1 K c b σ F H Q o) (e : Ext F H F' H') : AP1 K c b σ F' H' Q o :=
  OPost.imp (fun _ q v H2 F2 e2 r => q v H2 F2 (e.trans e2) r) (fun _ q H2 s => q H2 (e.h.trans s)) h

theorem FE.weak {t : TE} {g : Rho → O D} (h : FE K c own true t g) : FE K c own false t g := fun σ H F ρ Q S q =>
  h σ H F ρ Q S (OPost.imp (fun _ q v H2 F2 e2 r => q v H2 F2 e2 (.inl r)) (fun _ q => q) q)
theorem FE.any {t : TE} {g : Rho → O D} (h : FE K c own true t g) : FE K c own b t g := by
  cases b with
  | true => exact h
  | false => exact h.weak
/-! ### names, constants -/
def gVar (i : Nat) : Rho → O D := fun ρ => match ρ[i]? with
  | some (some d) => .ok d
  | _ => .bad
theorem fe_var {i : Nat} (hi : own.contains i = false) : FE K c own b (tVar i) (gVar i) := FE.any fun σ H F ρ Q S q => by
  unfold gVar at q
  split at q
  · rename_i d e
    obtain ⟨v, h1, h2⟩ := S.fro i d (fun z => by rw [List.contains_iff_mem.mpr z] at hi; cases hi) e
    exact ⟨v, h1, q v H F (Ext.refl S.s) h2⟩
  · exact q.elim
theorem fe_varO {i : Nat} : FE K c own false (tVar i) (gVar i) := fun σ H F ρ Q S q => by
  unfold gVar at q
  split at q
  · rename_i d e
    by_cases hi : i ∈ own
    · obtain ⟨a, xs, ds, h0, h1, h2, h3, _, _⟩ := S.ow i d hi e
      exact ⟨_, h1, q _ H F (Ext.refl S.s) (.inr ⟨a, xs, ds, rfl, h0, h2, h3⟩)⟩
    · obtain ⟨v, h1, h2⟩ := S.fro i d hi e
      exact ⟨v, h1, q v H F (Ext.refl S.s) (.inl h2)⟩
  · exact q.elim
def gC (d : D) : Rho → O D := fun _ => .ok d
theorem fe_c {v : V} {d : D} (r : ∀ F, Rep K c.cls F v d) : FE K c own b (tC v) (gC d) := FE.any fun σ H F ρ Q S q => q v H F (Ext.refl S.s) (r F)
/-! ### two in a row, operators -/
def g2 (op : D → D → O D) (ga gb : Rho → O D) : Rho → O D := fun ρ => (ga ρ).bind fun d => (gb ρ).bind fun e => op d e
def g1 (op : D → O D) (ga : Rho → O D) : Rho → O D := fun ρ => (ga ρ).bind op
def OpF (K : PySem.W.Frag) (c : Ct) (b : Bool) (r : R2) (op : D → D → O D) : Prop := ∀ F H x y d e Q, Same F H → Rep1 K c F H x d → Rep1 K c F H y e →
  OPost (fun z => ∀ v H' F', Ext F H F' H' → RepB K c b F' H' v z → Q v H') (fun _ => False) (op d e) → r x y H Q
def UnF (K : PySem.W.Frag) (c : Ct) (b : Bool) (r : V → Hp → VK → Prop) (op : D → O D) : Prop := ∀ F H x d Q, Same F H → Rep1 K c F H x d →
  OPost (fun z => ∀ v H' F', Ext F H F' H' → RepB K c b F' H' v z → Q v H') (fun _ => False) (op d) → r x H Q
def noEx {α : Type} : O α → O α
  | .ex _ => .bad
  | o => o
theorem noEx_post {α : Type} {P : α → Prop} {E : Nat → Prop} {o : O α} (h : OPost P E (noEx o)) : OPost P (fun _ => False) o := by
  cases o with
  | ok a => exact h
  | ex n => exact h.elim
  | bad => exact h.elim
theorem fe_op {r : R2} {op : D → D → O D} {ta tb : TE} {ga gb : Rho → O D} (ho : OpF K c b r op) (ha : FE K c own false ta ga) (hb : FE K c own false tb gb) : FE K c own b (tOp r ta tb) (g2 (fun d e => noEx (op d e)) ga gb) := fun σ H F ρ Q S q => by
  refine ha σ H F ρ _ S (OPost.imp (fun d q v H1 F1 e1 r1 => ?_) (fun _ q => q) (OPost.bind q))
  refine hb σ H1 F1 ρ _ (S.ext e1) (OPost.imp (fun e q w H2 F2 e2 r2 => ?_) (fun _ q H2 s => q H2 (e1.h.trans s)) (OPost.bind q))
  refine ho F2 H2 v w d e Q e2.s (r1.ext e2) r2 (OPost.imp (fun z q u H3 F3 e3 r3 => q u H3 F3 ((e1.trans e2).trans e3) r3) (fun _ q => q) (noEx_post q))
theorem fe_un {r : V → Hp → VK → Prop} {op : D → O D} {ta : TE} {ga : Rho → O D} (ho : UnF K c b r op) (ha : FE K c own false ta ga) : FE K c own b (tUn r ta) (g1 (fun d => noEx (op d)) ga) := fun σ H F ρ Q S q => by
  refine ha σ H F ρ _ S (OPost.imp (fun d q v H1 F1 e1 r1 => ?_) (fun _ q => q) (OPost.bind q))
  exact ho F1 H1 v d Q e1.s r1 (OPost.imp (fun z q u H3 F3 e3 r3 => q u H3 F3 (e1.trans e3) r3) (fun _ q => q) (noEx_post q))
/-! ### arguments -/
def gNilA : Rho → O (List D) := fun _ => .ok []
def gConsA (g : Rho → O D) (gs : Rho → O (List D)) : Rho → O (List D) := fun ρ => (g ρ).bind fun d => (gs ρ).bind fun ds => .ok (d :: ds)
theorem RepBL.nil : RepBL K c b F H [] [] := by
  cases b with
  | true => exact .nil
  | false => exact .nil
theorem RepBL.cons {v : V} {vs : List V} {d : D} {ds : List D} (h : RepB K c b F H v d) (t : RepBL K c b F H vs ds) : RepBL K c b F H (v :: vs) (d :: ds) := by
  cases b with
  | true => exact RepL.cons h t
  | false => exact Paired.cons h t
theorem fa_nil : FA K c own b tNil gNilA := fun σ H F ρ Q S q => q [] H F (Ext.refl S.s) RepBL.nil
theorem fa_cons {t : TE} {ts : TA} {g : Rho → O D} {gs : Rho → O (List D)} (h : FE K c own b t g) (hs : FA K c own b ts gs) : FA K c own b (tCons t ts) (gConsA g gs) := fun σ H F ρ Q S q => by
  refine h σ H F ρ _ S (OPost.imp (fun d q v H1 F1 e1 r1 => ?_) (fun _ q => q) (OPost.bind q))
  refine hs σ H1 F1 ρ _ (S.ext e1) (OPost.imp (fun ds q vs H2 F2 e2 r2 => ?_) (fun _ q H2 s => q H2 (e1.h.trans s)) (OPost.bind q))
  exact q (v :: vs) H2 F2 (e1.trans e2) (RepBL.cons (r1.ext e2) r2)
theorem Paired.repL {vs : List V} {ds : List D} (h : RepL K c.cls F vs ds) : Paired (Rep1 K c F H) vs ds := by
  induction vs generalizing ds with
  | nil => cases h; exact .nil
  | cons v vs ih => cases h with
    | cons r t => exact .cons (.inl r) (ih t)
/-! ### built-in calls -/
def CallF (K : PySem.W.Frag) (c : Ct) (b : Bool) (r : List V → Hp → VK → Prop) (f : List D → O D) : Prop := ∀ F H xs ds Q, Same F H → Paired (Rep1 K c F H) xs ds →
  OPost (fun z => ∀ v H' F', Ext F H F' H' → RepB K c b F' H' v z → Q v H') (fun _ => False) (f ds) → r xs H Q
def gCall (f : List D → O D) (g : Rho → O (List D)) : Rho → O D := fun ρ => (g ρ).bind f
theorem fe_callB {r : List V → Hp → VK → Prop} {f : List D → O D} {t : TA} {g : Rho → O (List D)} (hf : CallF K c b r f) (h : FA K c own false t g) : FE K c own b (tCB r t) (gCall (fun ds => noEx (f ds)) g) := fun σ H F ρ Q S q => by
  refine h σ H F ρ _ S (OPost.imp (fun ds q vs H1 F1 e1 r1 => ?_) (fun _ q => q) (OPost.bind q))
  exact hf F1 H1 vs ds Q e1.s r1 (OPost.imp (fun z q u H3 F3 e3 r3 => q u H3 F3 (e1.trans e3) r3) (fun _ q => q) (noEx_post q))
/-! ### lists and tuples, written -/
def lim : Nat := 1000000
theorem lim_le : lim ≤ sizeLine := by rw [sizeLine_eq]; decide
theorem le_lim {n : Nat} (h : n ≤ lim) : n ≤ sizeLine := Nat.le_trans h lim_le
theorem lt_lim {n : Nat} (h : n < lim) : n < sizeLine := Nat.lt_of_lt_of_le h lim_le
def gTup (g : Rho → O (List D)) : Rho → O D := fun ρ => (g ρ).bind fun ds => if ds.length ≤ lim then .ok (.tuple ds) else .bad
def gLst (g : Rho → O (List D)) : Rho → O D := fun ρ => (g ρ).bind fun ds => if ds.length ≤ lim then .ok (.list ds) else .bad
theorem fe_tup {t : TA} {g : Rho → O (List D)} (h : FA K c own true t g) : FE K c own b (tTup t) (gTup g) := FE.any fun σ H F ρ Q S q => by
  refine h σ H F ρ _ S (OPost.imp (fun ds q vs H1 F1 e1 r1 => ?_) (fun _ q => q) (OPost.bind q))
  have rl : RepL K c.cls F1 vs ds := r1
  split at q
  · rename_i hl
    refine ⟨by rw [rl.length]; exact le_lim hl, fun p hp => ?_⟩
    exact q _ _ _ (e1.trans (Ext.new e1.s hp)) (.tp (SqT.of upd_same) (rl.mono (same_upd (e1.s.free hp))))
  · exact q.elim
theorem fo_lst {t : TA} {g : Rho → O (List D)} (h : FA K c own true t g) : FO K c own (tLst t) (gLst g) := fun σ H F ρ Q S q => by
  refine h σ H F ρ _ S (OPost.imp (fun ds q vs H1 F1 e1 r1 => ?_) (fun _ q => q) (OPost.bind q))
  have rl : RepL K c.cls F1 vs ds := r1
  split at q
  · rename_i hl
    obtain ⟨es, e, q⟩ := q
    cases e
    refine ⟨by rw [rl.length]; exact le_lim hl, fun p hp => ?_⟩
    exact q p vs _ F1 (e1.trans (Ext.newO e1.s hp)) upd_same (e1.s.free hp) (e1.h.free hp) rl
  · exact q.elim
/-- a new list is as good as one that stays -/
theorem FO.fe {t : TE} {g : Rho → O D} (h : FO K c own t g) (hl : ∀ ρ d, g ρ = .ok d → ∃ ds, d = .list ds) : FE K c own b t g := FE.any fun σ H F ρ Q S q => by
  refine h σ H F ρ Q S ?_
  cases hg : g ρ with
  | ok d =>
    rw [hg] at q
    obtain ⟨ds, rfl⟩ := hl ρ d hg
    refine ⟨ds, rfl, fun a xs H' F' e h1 h2 h3 r => ?_⟩
    exact q _ _ _ (e.keep h3 h1) (.ls upd_same (r.mono (same_upd h2)))
  | ex n => rw [hg] at q; exact q
  | bad => rw [hg] at q; exact q
theorem gLst_list {g : Rho → O (List D)} : ∀ ρ d, gLst g ρ = .ok d → ∃ ds, d = .list ds := fun ρ d h => by
  unfold gLst at h
  cases e : g ρ with
  | ok ds =>
    rw [e, O.bind_ok] at h
    split at h
    · cases h; exact ⟨ds, rfl⟩
    · cases h
  | ex n => rw [e] at h; cases h
  | bad => rw [e] at h; cases h
theorem fe_lst {t : TA} {g : Rho → O (List D)} (h : FA K c own true t g) : FE K c own b (tLst t) (gLst g) := (fo_lst h).fe gLst_list

/-! ### tests -/
def gBl (g : Rho → O D) : Rho → O Bool := fun ρ => (g ρ).bind fun d => match d with
  | .bool k => .ok k
  | _ => .bad
theorem ft_bl {t : TE} {g : Rho → O D} (h : FE K c own false t g) : FT K c own (tB t) (gBl g) := fun σ H F ρ Q S q => by
  refine h σ H F ρ _ S (OPost.imp (fun d q v H1 F1 e1 r1 => ?_) (fun _ q => q) (OPost.bind q))
  split at q
  · rename_i k
    have r1 : Rep1 K c F1 H1 v (.bool k) := r1
    exact ⟨k, r1.bl, q H1 F1 e1⟩
  · exact q.elim
theorem ft_test {t : TE} {g : Rho → O D} (h : FE K c own false t g) : FT K c own (tTest t) (gBl g) := ft_bl h
def truD : D → O Bool
  | .none => .ok false
  | .bool k => .ok k
  | .int i => .ok (i != 0)
  | .str x => if x.length ≤ lim then .ok ((x.length : Int) != 0) else .bad
  | .list ds => .ok (!ds.isEmpty)
  | .tuple ds => .ok (!ds.isEmpty)
  | .dict [(.none, .list ds)] => .ok (!ds.isEmpty)
  | .dict _ => .bad
def gTru (g : Rho → O D) : Rho → O Bool := fun ρ => (g ρ).bind truD
theorem isEmpty_repL {vs : List V} {ds : List D} (h : RepL K c.cls F vs ds) : vs.isEmpty = ds.isEmpty := by
  cases h <;> rfl
theorem ft_truth {t : TE} {g : Rho → O D} (h : FE K c own false t g) : FT K c own (fun σ H Q => t σ H fun x H' => ∃ k, TruV K x H' k ∧ Q k H') (gTru g) := fun σ H F ρ Q S q => by
  refine h σ H F ρ _ S (OPost.imp (fun d q v H1 F1 e1 r1 => ?_) (fun _ q => q) (OPost.bind q))
  have r1 : Rep1 K c F1 H1 v d := r1
  unfold truD at q
  split at q
  · rw [r1.non]; exact ⟨_, rfl, q H1 F1 e1⟩
  · rw [r1.bl]; exact ⟨_, rfl, q H1 F1 e1⟩
  · rw [r1.int]; exact ⟨_, rfl, q H1 F1 e1⟩
  · split at q
    · rename_i hl
      rw [r1.str]; exact ⟨_, ⟨le_lim hl, rfl⟩, q H1 F1 e1⟩
    · exact q.elim
  · obtain ⟨a, xs, rfl, h1, h2⟩ := r1.lst e1.s
    exact ⟨_, .inl ⟨xs, SqL.of h1, by rw [isEmpty_repL h2]⟩, q H1 F1 e1⟩
  · obtain ⟨a, xs, rfl, h1, h2, _⟩ := r1.tup e1.s
    exact ⟨_, .inr (.inl ⟨xs, h1, by rw [isEmpty_repL h2]⟩), q H1 F1 e1⟩
  · obtain ⟨a, xs, rfl, h1, h2⟩ := r1.roL e1.s
    exact ⟨_, .inl ⟨xs, h1, by rw [isEmpty_repL h2]⟩, q H1 F1 e1⟩
  · exact q.elim
def gNotT (g : Rho → O Bool) : Rho → O Bool := fun ρ => (g ρ).bind fun k => .ok (!k)
theorem ft_not {t : TT} {g : Rho → O Bool} (h : FT K c own t g) : FT K c own (tNot t) (gNotT g) := fun σ H F ρ Q S q =>
  h σ H F ρ _ S (OPost.imp (fun k q H1 F1 e1 => q H1 F1 e1) (fun _ q => q) (OPost.bind q))
def gAndT (g u : Rho → O Bool) : Rho → O Bool := fun ρ => (g ρ).bind fun k => if k = true then u ρ else .ok false
def gOrT (g u : Rho → O Bool) : Rho → O Bool := fun ρ => (g ρ).bind fun k => if k = true then .ok true else u ρ
theorem ft_and {t u : TT} {g g' : Rho → O Bool} (h : FT K c own t g) (h' : FT K c own u g') : FT K c own (tAnd t u) (gAndT g g') := fun σ H F ρ Q S q => by
  refine h σ H F ρ _ S (OPost.imp (fun k q H1 F1 e1 => ?_) (fun _ q => q) (OPost.bind q))
  cases k with
  | true =>
    rw [if_pos rfl] at q ⊢
    exact h' σ H1 F1 ρ Q (S.ext e1) (TP1.ext q e1)
  | false =>
    rw [if_neg Bool.false_ne_true] at q ⊢
    exact q H1 F1 e1
theorem ft_or {t u : TT} {g g' : Rho → O Bool} (h : FT K c own t g) (h' : FT K c own u g') : FT K c own (tOr t u) (gOrT g g') := fun σ H F ρ Q S q => by
  refine h σ H F ρ _ S (OPost.imp (fun k q H1 F1 e1 => ?_) (fun _ q => q) (OPost.bind q))
  cases k with
  | true =>
    rw [if_pos rfl] at q ⊢
    exact q H1 F1 e1
  | false =>
    rw [if_neg Bool.false_ne_true] at q ⊢
    exact h' σ H1 F1 ρ Q (S.ext e1) (TP1.ext q e1)
/-! ### and, or, not, if as values -/
def gAndV (g u : Rho → O D) : Rho → O D := fun ρ => (gBl g ρ).bind fun k => if k = true then u ρ else .ok (.bool false)
def gOrV (g u : Rho → O D) : Rho → O D := fun ρ => (gBl g ρ).bind fun k => if k = true then .ok (.bool true) else u ρ
def gNotV (g : Rho → O D) : Rho → O D := fun ρ => (gBl g ρ).bind fun k => .ok (.bool (!k))
theorem fe_and {t u : TE} {g g' : Rho → O D} (h : FE K c own false t g) (h' : FE K c own b u g') : FE K c own b (tAndV t u) (gAndV g g') := fun σ H F ρ Q S q => by
  refine h σ H F ρ _ S (OPost.imp (fun d q v H1 F1 e1 r1 => ?_) (fun _ q => q) (OPost.bind (OPost.bind q)))
  split at q
  · rename_i k
    have r1 : Rep1 K c F1 H1 v (.bool k) := r1
    refine ⟨k, r1.bl, ?_⟩
    cases k with
    | true => exact h' σ H1 F1 ρ Q (S.ext e1) (EP1.ext q e1)
    | false => exact q _ H1 F1 e1 (by cases b with | true => exact .bl _ | false => exact .inl (.bl _))
  · exact q.elim
theorem fe_or {t u : TE} {g g' : Rho → O D} (h : FE K c own false t g) (h' : FE K c own b u g') : FE K c own b (tOrV t u) (gOrV g g') := fun σ H F ρ Q S q => by
  refine h σ H F ρ _ S (OPost.imp (fun d q v H1 F1 e1 r1 => ?_) (fun _ q => q) (OPost.bind (OPost.bind q)))
  split at q
  · rename_i k
    have r1 : Rep1 K c F1 H1 v (.bool k) := r1
    refine ⟨k, r1.bl, ?_⟩
    cases k with
    | true => exact q _ H1 F1 e1 (by cases b with | true => exact .bl _ | false => exact .inl (.bl _))
    | false => exact h' σ H1 F1 ρ Q (S.ext e1) (EP1.ext q e1)
  · exact q.elim
theorem fe_not {t : TE} {g : Rho → O D} (h : FE K c own false t g) : FE K c own b (tNotV t) (gNotV g) := FE.any fun σ H F ρ Q S q => by
  refine h σ H F ρ _ S (OPost.imp (fun d q v H1 F1 e1 r1 => ?_) (fun _ q => q) (OPost.bind (OPost.bind q)))
  split at q
  · rename_i k
    have r1 : Rep1 K c F1 H1 v (.bool k) := r1
    exact ⟨k, r1.bl, q _ H1 F1 e1 (.bl _)⟩
  · exact q.elim
def gIf (g : Rho → O Bool) (u w : Rho → O D) : Rho → O D := fun ρ => (g ρ).bind fun k => if k = true then u ρ else w ρ
theorem fe_if {t : TT} {u w : TE} {g : Rho → O Bool} {g' g'' : Rho → O D} (h : FT K c own t g) (h' : FE K c own b u g') (h'' : FE K c own b w g'') : FE K c own b (tIf t u w) (gIf g g' g'') := fun σ H F ρ Q S q => by
  refine h σ H F ρ _ S (OPost.imp (fun k q H1 F1 e1 => ?_) (fun _ q => q) (OPost.bind q))
  cases k with
  | true =>
    rw [if_pos rfl] at q ⊢
    exact h' σ H1 F1 ρ Q (S.ext e1) (EP1.ext q e1)
  | false =>
    rw [if_neg Bool.false_ne_true] at q ⊢
    exact h'' σ H1 F1 ρ Q (S.ext e1) (EP1.ext q e1)
end
end Fn

set_option Elab.async false
set_option linter.all false
set_option maxRecDepth 100000
/-! A tuple times one is the tuple itself. -/
namespace Fn
open PySem PySem.Spec PyProof.Rows L2
theorem tuple_mul_one (l : Addr) (items : Array Value) (n : Nat) (dd : Option Addr) (sl : Array (Option Value)) (u : Tok) :
    Meets (Builtin.«tuple.__mul__» ⟨[.ref l, .int 1 u], []⟩) (fun _ R s => s.heap.get? l = some { cls := .type "tuple", dict := dd, data := .seq items n, slots := sl } ∧ R (.ok (.ret (Value.ref l))) s) :=
  .of_wp fun prog w A R s h => by
    obtain ⟨hp, g, d, t, os⟩ := s
    obtain ⟨hl, q⟩ := h
    have f1 := AutoSeq1.idx_int
    wp_walk using wpAny_loadPart' hl
    exact ⟨_, rfl, q⟩
def rRepT1 (K : PySem.W.Frag) : R2 := fun x y H Q => ∃ l xs, x = .ref l ∧ y = .int 1 ∧ SqT K H l xs ∧ Q (.ref l) H
theorem op_repT1 {X : Cx} : OpR X (binaryOp .Mult) (rRepT1 X.K) := by
  intro pins s σ H x y v u Q I rx ry h
  obtain ⟨l, xs, rfl, rfl, hT, q⟩ := h
  cases rx
  obtain ⟨t, rfl⟩ := ry
  obtain ⟨its, r, ⟨⟨kl, dd, data, sl⟩, ho, hc, n, hd⟩, hs⟩ := I.tuple hT
  simp only at hc hd
  subst hc
  subst hd
  have m2 := int_rmul_tuple 1 t l its.toArray n dd sl
  refine wpAny_binaryOp_repeat_ref (T := "tuple") (U := "int") (by decide) ⟨_, ho, rfl⟩ (fun s' => typeIs_int s' 1 t) noFill_tuple_mul F.fills_int_mul F.slot_int_rmul repeat_tuple F.slot_int_index.lookup ?_
  refine call_meets F.slot_int_rmul (typeIs_int s 1 t) F.entry_int_rmul (F.args_int_rmul_2 _ _) m2 ⟨ho, rfl, ⟨_, ho, rfl⟩, ?_⟩
  exact call_meets F.slot_tuple_mul ⟨_, ho, rfl⟩ F.entry_tuple_mul (F.args_tuple_mul_2 _ _) (tuple_mul_one l its.toArray n dd sl t) ⟨ho, .ref l, H, I, rfl, q⟩
end Fn

set_option Elab.async false
set_option linter.all false
set_option maxRecDepth 100000
/-! Operators, subscripts, built-in calls by data. -/
namespace Fn
open PySem PySem.Spec L2

section
variable {K : PySem.W.Frag} {c : Ct} {own : List Nat} {b : Bool} {F H F' H' : Hp} {σ : St} {ρ : Rho}
/-- an operator whose answer is a new list -/
def OpO (K : PySem.W.Frag) (c : Ct) (r : R2) (op : D → D → O (List D)) : Prop := ∀ F H x y d e Q, Same F H → Rep1 K c F H x d → Rep1 K c F H y e →
  OPost (fun ds => ∀ a xs H' F', Ext F H F' H' → H' a = some (.lst xs) → F' a = none → H a = none → RepL K c.cls F' xs ds → Q (.ref a) H') (fun _ => False) (op d e) → r x y H Q
def g2L (op : D → D → O (List D)) (ga gb : Rho → O D) : Rho → O D := fun ρ => (ga ρ).bind fun d => (gb ρ).bind fun e => (op d e).bind fun ds => .ok (.list ds)
theorem OPost.noex {α : Type} {P : α → Prop} {E : Nat → Prop} {o : O α} (h : OPost P E o) (hn : ∀ n, o ≠ .ex n) : OPost P (fun _ => False) o := by
  cases o with
  | ok a => exact h
  | ex n => exact absurd rfl (hn n)
  | bad => exact h.elim
theorem fo_op {r : R2} {op : D → D → O (List D)} {ta tb : TE} {ga gb : Rho → O D} (ho : OpO K c r op) (hn : ∀ d e n, op d e ≠ .ex n) (ha : FE K c own false ta ga) (hb : FE K c own false tb gb) : FO K c own (tOp r ta tb) (g2L op ga gb) := fun σ H F ρ Q S q => by
  refine ha σ H F ρ _ S (OPost.imp (fun d q v H1 F1 e1 r1 => ?_) (fun _ q => q) (OPost.bind q))
  refine hb σ H1 F1 ρ _ (S.ext e1) (OPost.imp (fun e q w H2 F2 e2 r2 => ?_) (fun _ q H2 s => q H2 (e1.h.trans s)) (OPost.bind q))
  refine ho F2 H2 v w d e Q e2.s (r1.ext e2) r2 (OPost.imp (fun ds q a xs H3 F3 e3 h1 h2 h3 r3 => ?_) (fun _ q => q) (OPost.noex (OPost.bind q) (hn d e)))
  obtain ⟨es, ee, q⟩ := q
  cases ee
  exact q a xs H3 F3 ((e1.trans e2).trans e3) h1 h2 ((e1.trans e2).h.free h3) r3

/-! ### whole numbers -/
def mulOk (i j : Int) : Bool := decide (i.natAbs.log2 + j.natAbs.log2 < 1000000) || (decide (-(2 ^ 64) < i ∧ i < 2 ^ 64) || decide (-(2 ^ 64) < j ∧ j < 2 ^ 64))
def repL (ds : List D) (k : Int) : O (List D) := if -(lim : Int) ≤ k ∧ k ≤ lim ∧ ds.length * k.toNat ≤ lim then .ok (List.replicate k.toNat ds).flatten else .bad
def dSub : D → D → O D
  | .int i, .int j => .ok (.int (i - j))
  | _, _ => .bad
def dFdiv : D → D → O D
  | .int i, .int j => if 0 < j ∧ j.natAbs.log2 < 9000 then .ok (.int (i / j)) else .bad
  | _, _ => .bad
def dMod : D → D → O D
  | .int i, .int j => if 0 < j then .ok (.int (i % j)) else .bad
  | _, _ => .bad
def dPow : D → D → O D
  | .int i, .int j => if 0 ≤ j ∧ j ≤ 1000000 ∧ i.natAbs < 2 ^ 64 then .ok (.int (i ^ j.toNat)) else .bad
  | _, _ => .bad
def dNeg : D → O D
  | .int i => .ok (.int (-i))
  | _ => .bad
theorem opf_int {r : R2} {C : Int → Int → Prop} {g : Int → Int → Int} {op : D → D → O D}
    (hr : ∀ i j H Q, C i j → Q (V.int (g i j)) H → r (.int i) (.int j) H Q)
    (ho : ∀ d e z, op d e = .ok z → ∃ i j, d = .int i ∧ e = .int j ∧ C i j ∧ z = .int (g i j)) (hx : ∀ d e n, op d e ≠ .ex n) : OpF K c b r op := fun F H x y d e Q s rx ry q => by
  cases h : op d e with
  | ok z =>
    rw [h] at q
    obtain ⟨i, j, rfl, rfl, hc, rfl⟩ := ho d e z h
    rw [rx.int, ry.int]
    exact hr i j H Q hc (q _ _ _ (Ext.refl s) (by cases b with | true => exact .int _ | false => exact .inl (.int _)))
  | ex n => exact absurd h (hx d e n)
  | bad => rw [h] at q; exact q.elim
theorem opf_blI {r : R2} {g : Int → Int → Bool} {op : D → D → O D}
    (hr : ∀ i j H Q, Q (V.bl (g i j)) H → r (.int i) (.int j) H Q)
    (ho : ∀ d e z, op d e = .ok z → ∃ i j, d = .int i ∧ e = .int j ∧ z = .bool (g i j)) (hx : ∀ d e n, op d e ≠ .ex n) : OpF K c b r op := fun F H x y d e Q s rx ry q => by
  cases h : op d e with
  | ok z =>
    rw [h] at q
    obtain ⟨i, j, rfl, rfl, rfl⟩ := ho d e z h
    rw [rx.int, ry.int]
    exact hr i j H Q (q _ _ _ (Ext.refl s) (by cases b with | true => exact .bl _ | false => exact .inl (.bl _)))
  | ex n => exact absurd h (hx d e n)
  | bad => rw [h] at q; exact q.elim
theorem opf_sub : OpF K c b (rI0 fun i j => .int (i - j)) dSub := opf_int (C := fun _ _ => True) (fun i j H Q _ q => ⟨i, j, rfl, rfl, q⟩)
  (fun d e z h => by unfold dSub at h; split at h <;> first | (cases h; exact ⟨_, _, rfl, rfl, trivial, rfl⟩) | cases h) (fun d e n h => by unfold dSub at h; split at h <;> cases h)
theorem opf_mod : OpF K c b (rI (fun _ j => 0 < j) fun i j => .int (i % j)) dMod := opf_int (C := fun _ j => 0 < j) (fun i j H Q h q => ⟨i, j, rfl, rfl, h, q⟩)
  (fun d e z h => by unfold dMod at h; split at h <;> first | (split at h <;> first | (cases h; exact ⟨_, _, rfl, rfl, ‹_›, rfl⟩) | cases h) | cases h) (fun d e n h => by unfold dMod at h; split at h <;> (try split at h) <;> cases h)
theorem opf_fdiv : OpF K c b (rI CDivW fun i j => .int (i / j)) dFdiv := opf_int (C := CDivW) (fun i j H Q h q => ⟨i, j, rfl, rfl, h, q⟩)
  (fun d e z h => by unfold dFdiv at h; split at h <;> first | (split at h <;> first | (cases h; exact ⟨_, _, rfl, rfl, ‹_›, rfl⟩) | cases h) | cases h) (fun d e n h => by unfold dFdiv at h; split at h <;> (try split at h) <;> cases h)
theorem opf_pow : OpF K c b (rI CPow fun i j => .int (i ^ j.toNat)) dPow := opf_int (C := CPow) (fun i j H Q h q => ⟨i, j, rfl, rfl, h, q⟩)
  (fun d e z h => by unfold dPow at h; split at h <;> first | (split at h <;> first | (cases h; exact ⟨_, _, rfl, rfl, ‹_›, rfl⟩) | cases h) | cases h) (fun d e n h => by unfold dPow at h; split at h <;> (try split at h) <;> cases h)
theorem unf_neg : UnF K c b (rU fun i => .int (-i)) dNeg := fun F H x d Q s rx q => by
  unfold dNeg at q
  split at q
  · rename_i i
    have rx : Rep1 K c F H x (.int i) := rx
    rw [rx.int]
    exact ⟨i, rfl, q _ _ _ (Ext.refl s) (by cases b with | true => exact .int _ | false => exact .inl (.int _))⟩
  · exact q.elim
def dLt : D → D → O D
  | .int i, .int j => .ok (.bool (decide (i < j)))
  | _, _ => .bad
def dLe : D → D → O D
  | .int i, .int j => .ok (.bool (decide (i ≤ j)))
  | _, _ => .bad
def dGt : D → D → O D
  | .int i, .int j => .ok (.bool (decide (j < i)))
  | _, _ => .bad
def dGe : D → D → O D
  | .int i, .int j => .ok (.bool (decide (j ≤ i)))
  | _, _ => .bad
theorem opf_lt : OpF K c b (rI0 fun i j => .bl (decide (i < j))) dLt := opf_blI (fun i j H Q q => ⟨i, j, rfl, rfl, q⟩)
  (fun d e z h => by unfold dLt at h; split at h <;> first | (cases h; exact ⟨_, _, rfl, rfl, rfl⟩) | cases h) (fun d e n h => by unfold dLt at h; split at h <;> cases h)
theorem opf_le : OpF K c b (rI0 fun i j => .bl (decide (i ≤ j))) dLe := opf_blI (fun i j H Q q => ⟨i, j, rfl, rfl, q⟩)
  (fun d e z h => by unfold dLe at h; split at h <;> first | (cases h; exact ⟨_, _, rfl, rfl, rfl⟩) | cases h) (fun d e n h => by unfold dLe at h; split at h <;> cases h)
theorem opf_gt : OpF K c b (rI0 fun i j => .bl (decide (j < i))) dGt := opf_blI (fun i j H Q q => ⟨i, j, rfl, rfl, q⟩)
  (fun d e z h => by unfold dGt at h; split at h <;> first | (cases h; exact ⟨_, _, rfl, rfl, rfl⟩) | cases h) (fun d e n h => by unfold dGt at h; split at h <;> cases h)
theorem opf_ge : OpF K c b (rI0 fun i j => .bl (decide (j ≤ i))) dGe := opf_blI (fun i j H Q q => ⟨i, j, rfl, rfl, q⟩)
  (fun d e z h => by unfold dGe at h; split at h <;> first | (cases h; exact ⟨_, _, rfl, rfl, rfl⟩) | cases h) (fun d e n h => by unfold dGe at h; split at h <;> cases h)
/-! ### + -/
def dCat : D → D → O (List D)
  | .list xs, .list ys => if xs.length + ys.length ≤ lim then .ok (xs ++ ys) else .bad
  | _, _ => .bad
theorem opo_cat : OpO K c rCat dCat := fun F H x y d e Q s rx ry q => by
  unfold dCat at q
  split at q
  · rename_i xs ys
    have rx : Rep1 K c F H x (.list xs) := rx
    have ry : Rep1 K c F H y (.list ys) := ry
    split at q
    · rename_i hl
      obtain ⟨a, us, rfl, h1, r1⟩ := rx.lst s
      obtain ⟨a2, us2, rfl, h2, r2⟩ := ry.lst s
      refine ⟨a, a2, us, us2, rfl, rfl, h1, h2, by rw [r1.length, r2.length]; exact le_lim hl, fun p hp => ?_⟩
      exact q p _ _ F (Ext.newO s hp) upd_same (s.free hp) hp (r1.append r2)
    · exact q.elim
  · exact q.elim
theorem dCat_ex : ∀ d e n, dCat d e ≠ .ex n := fun d e n h => by
  unfold dCat at h
  split at h <;> (try split at h) <;> cases h
def rAddS : R2 := fun x y H Q => ∃ i j, x = .str i ∧ y = .str j ∧ i.length + j.length ≤ sizeLine ∧ Q (.str (i ++ j)) H
def rAddAll (K : PySem.W.Frag) : R2 := fun x y H Q => rI0 (fun i j => .int (i + j)) x y H Q ∨ rCat x y H Q ∨ rCatT K x y H Q ∨ rAddS x y H Q
theorem op_addAll {X : Cx} : OpR X (binaryOp .Add) (rAddAll X.K) := op_add.or (op_cat.or (op_catT.or op_add_str))
def dAdd : D → D → O D
  | .int i, .int j => .ok (.int (i + j))
  | .list xs, .list ys => if xs.length + ys.length ≤ lim then .ok (.list (xs ++ ys)) else .bad
  | .tuple xs, .tuple ys => if xs ≠ [] ∧ xs.length + ys.length ≤ lim then .ok (.tuple (xs ++ ys)) else .bad
  | .str i, .str j => if i.length + j.length ≤ lim then .ok (.str (i ++ j)) else .bad
  | _, _ => .bad
theorem RepB.of {v : V} {d : D} (r : Rep K c.cls F v d) : RepB K c b F H v d := by
  cases b with
  | true => exact r
  | false => exact .inl r
theorem opf_add : OpF K c b (rAddAll K) dAdd := fun F H x y d e Q s rx ry q => by
  unfold dAdd at q
  split at q
  · rename_i i j
    have rx : Rep1 K c F H x (.int i) := rx
    have ry : Rep1 K c F H y (.int j) := ry
    exact .inl ⟨i, j, rx.int, ry.int, q _ _ _ (Ext.refl s) (.of (.int _))⟩
  · rename_i xs ys
    have rx : Rep1 K c F H x (.list xs) := rx
    have ry : Rep1 K c F H y (.list ys) := ry
    split at q
    · rename_i hl
      obtain ⟨a, us, rfl, h1, r1⟩ := rx.lst s
      obtain ⟨a2, us2, rfl, h2, r2⟩ := ry.lst s
      refine .inr (.inl ⟨a, a2, us, us2, rfl, rfl, h1, h2, by rw [r1.length, r2.length]; exact le_lim hl, fun p hp => ?_⟩)
      exact q _ _ _ (Ext.new s hp) (.of (.ls upd_same ((r1.append r2).mono (same_upd (s.free hp)))))
    · exact q.elim
  · rename_i xs ys
    have rx : Rep1 K c F H x (.tuple xs) := rx
    have ry : Rep1 K c F H y (.tuple ys) := ry
    split at q
    · rename_i hl
      obtain ⟨a, us, rfl, h1, r1, rr⟩ := rx.tup s
      obtain ⟨a2, us2, rfl, h2, r2, _⟩ := ry.tup s
      have ne : us ≠ [] := fun z => by
        subst z
        cases r1
        exact hl.1 rfl
      refine .inr (.inr (.inl ⟨a, a2, us, us2, rfl, rfl, h1, h2, ne, by rw [r1.length, r2.length]; exact le_lim hl.2, fun z => ?_, fun z p hp => ?_⟩))
      · subst z
        cases r2
        have q := q (.ref a) H F (Ext.refl s)
        rw [List.append_nil] at q
        exact q (.of rr)
      · exact q _ _ _ (Ext.new s hp) (.of (.tp (SqT.of upd_same) ((r1.append r2).mono (same_upd (s.free hp)))))
    · exact q.elim
  · rename_i i j
    have rx : Rep1 K c F H x (.str i) := rx
    have ry : Rep1 K c F H y (.str j) := ry
    split at q
    · rename_i hl
      exact .inr (.inr (.inr ⟨i, j, rx.str, ry.str, le_lim hl, q _ _ _ (Ext.refl s) (.of (.str _))⟩))
    · exact q.elim
  · exact q.elim
/-! ### * -/
def dRep : D → D → O (List D)
  | .list xs, .int k => repL xs k
  | _, _ => .bad
theorem repL_ok {xs : List D} {k : Int} {ys : List D} (h : repL xs k = .ok ys) : -(lim : Int) ≤ k ∧ k ≤ lim ∧ xs.length * k.toNat ≤ lim ∧ ys = (List.replicate k.toNat xs).flatten := by
  unfold repL at h
  split at h
  · rename_i q
    cases h
    exact ⟨q.1, q.2.1, q.2.2, rfl⟩
  · cases h
theorem opo_rep : OpO K c rRep dRep := fun F H x y d e Q s rx ry q => by
  unfold dRep at q
  split at q
  · rename_i xs k
    have rx : Rep1 K c F H x (.list xs) := rx
    have ry : Rep1 K c F H y (.int k) := ry
    cases h : repL xs k with
    | ok ys =>
      rw [h] at q
      obtain ⟨h1, h2, h3, rfl⟩ := repL_ok h
      obtain ⟨a, us, rfl, h4, r1⟩ := rx.lst s
      refine ⟨a, k, us, rfl, ry.int, h4, by unfold lim at h1; omega, by unfold lim at h2; omega, by rw [r1.length]; exact le_lim h3, fun p hp => ?_⟩
      exact q p _ _ F (Ext.newO s hp) upd_same (s.free hp) hp (r1.rep _)
    | ex n => rw [h] at q; exact q.elim
    | bad => rw [h] at q; exact q.elim
  · exact q.elim
theorem dRep_ex : ∀ d e n, dRep d e ≠ .ex n := fun d e n h => by
  unfold dRep repL at h
  split at h <;> (try split at h) <;> cases h
def rMulAll (K : PySem.W.Frag) : R2 := fun x y H Q => rI CMulW (fun i j => .int (i * j)) x y H Q ∨ rI CMul (fun i j => .int (i * j)) x y H Q ∨ rRep x y H Q ∨ rRepT K x y H Q ∨ rRepT1 K x y H Q
theorem op_mulAll {X : Cx} : OpR X (binaryOp .Mult) (rMulAll X.K) := op_mulW.or (op_mul.or (op_rep.or (op_repT.or op_repT1)))
def dMul : D → D → O D
  | .int i, .int j => if mulOk i j = true then .ok (.int (i * j)) else .bad
  | .list xs, .int k => (repL xs k).bind fun ys => .ok (.list ys)
  | .tuple xs, .int k => if xs ≠ [] ∧ 1 ≤ k ∧ k ≤ 1000 ∧ xs.length ≤ 1000 then .ok (.tuple (List.replicate k.toNat xs).flatten) else .bad
  | _, _ => .bad
theorem opf_mul : OpF K c b (rMulAll K) dMul := fun F H x y d e Q s rx ry q => by
  unfold dMul at q
  split at q
  · rename_i i j
    have rx : Rep1 K c F H x (.int i) := rx
    have ry : Rep1 K c F H y (.int j) := ry
    split at q
    · rename_i h
      have h0 := q _ _ _ (Ext.refl s) (.of (.int _))
      unfold mulOk at h
      rw [Bool.or_eq_true, Bool.or_eq_true] at h
      rcases h with h | h | h
      · exact .inl ⟨i, j, rx.int, ry.int, of_decide_eq_true (p := i.natAbs.log2 + j.natAbs.log2 < 1000000) h, h0⟩
      · exact .inr (.inl ⟨i, j, rx.int, ry.int, .inl (of_decide_eq_true h), h0⟩)
      · exact .inr (.inl ⟨i, j, rx.int, ry.int, .inr (of_decide_eq_true h), h0⟩)
    · exact q.elim
  · rename_i xs k
    refine .inr (.inr (.inl (opo_rep F H x y (.list xs) (.int k) Q s rx ry ?_)))
    replace q := OPost.bind q
    refine OPost.imp (fun ds q a us H1 F1 e1 h1 h2 h3 r1 => ?_) (fun _ q => q) q
    exact q _ _ _ (e1.keep h3 h1) (.of (.ls upd_same (r1.mono (same_upd h2))))
  · rename_i xs k
    have rx : Rep1 K c F H x (.tuple xs) := rx
    have ry : Rep1 K c F H y (.int k) := ry
    split at q
    · rename_i hl
      obtain ⟨a, us, rfl, h1, r1, rr⟩ := rx.tup s
      have ne : us ≠ [] := fun z => by
        subst z
        cases r1
        exact hl.1 rfl
      by_cases h2 : k = 1
      · subst h2
        have e : (List.replicate (1 : Int).toNat xs).flatten = xs := by
          show (List.replicate 1 xs).flatten = xs
          rw [List.replicate_one, List.flatten_singleton]
        rw [e] at q
        exact .inr (.inr (.inr (.inr ⟨a, us, rfl, ry.int, h1, q _ _ _ (Ext.refl s) (.of rr)⟩)))
      · refine .inr (.inr (.inr (.inl ⟨a, k, us, rfl, ry.int, h1, ne, by omega, hl.2.2.1, by rw [r1.length]; exact hl.2.2.2, fun p hp => ?_⟩)))
        exact q _ _ _ (Ext.new s hp) (.of (.tp (SqT.of upd_same) ((r1.rep _).mono (same_upd (s.free hp)))))
    · exact q.elim
  · exact q.elim
/-! ### ==, !=, in -/
def scalD : D → D → Bool
  | .none, .none => true | .none, .int _ => true | .int _, .none => true | .none, .bool _ => true | .bool _, .none => true | .none, .str _ => true | .str _, .none => true
  | .int _, .int _ => true | .bool _, .bool _ => true | .str _, .str _ => true
  | .int _, .str _ => true | .str _, .int _ => true | .bool _, .str _ => true | .str _, .bool _ => true
  | _, _ => false
def okEq (d : D) : Bool := plainD d && SeqAt.shaped d
def dEq (d e : D) : O D := if (scalD d e || (okEq d && okEq e)) = true then .ok (.bool (PyData.eqv d e)) else .bad
def dNe (d e : D) : O D := if (scalD d e || (okEq d && okEq e)) = true then .ok (.bool (!PyData.eqv d e)) else .bad
theorem scal_of {v w : V} {d e : D} (rx : Rep1 K c F H v d) (ry : Rep1 K c F H w e) (h : scalD d e = true) : scal v w = true ∧ decide (v = w) = PyData.eqv d e := by
  unfold scalD at h
  split at h <;> first
    | (cases h; done)
    | (simp only [rx.non, ry.non, rx.int, ry.int, rx.bl, ry.bl, rx.str, ry.str]; exact ⟨rfl, rfl⟩)
    | (rw [rx.non, ry.non]; exact ⟨rfl, rfl⟩)
    | (rw [rx.non, ry.int]; exact ⟨rfl, rfl⟩)
    | (rw [rx.int, ry.non]; exact ⟨rfl, rfl⟩)
    | (rw [rx.non, ry.bl]; exact ⟨rfl, rfl⟩)
    | (rw [rx.bl, ry.non]; exact ⟨rfl, rfl⟩)
    | (rw [rx.non, ry.str]; exact ⟨rfl, rfl⟩)
    | (rw [rx.str, ry.non]; exact ⟨rfl, rfl⟩)
    | (rw [rx.int, ry.int]; exact ⟨rfl, dec_int⟩)
    | (rw [rx.bl, ry.bl]; exact ⟨rfl, dec_bl⟩)
    | (rw [rx.str, ry.str]; exact ⟨rfl, dec_str⟩)
    | (rw [rx.int, ry.str]; exact ⟨rfl, rfl⟩)
    | (rw [rx.str, ry.int]; exact ⟨rfl, rfl⟩)
    | (rw [rx.bl, ry.str]; exact ⟨rfl, rfl⟩)
    | (rw [rx.str, ry.bl]; exact ⟨rfl, rfl⟩)
def rEqAll (K : PySem.W.Frag) : R2 := fun x y H Q => rEq x y H Q ∨ rEqD K x y H Q
def rNeAll (K : PySem.W.Frag) : R2 := fun x y H Q => rNe x y H Q ∨ rNeD K x y H Q
theorem op_eqAll {X : Cx} (hu : X.A.units + 64 < cLine) : OpR X (compareOp .Eq) (rEqAll X.K) := op_eq.or (op_eqD hu)
theorem op_neAll {X : Cx} (hu : X.A.units + 64 < cLine) : OpR X (compareOp .NotEq) (rNeAll X.K) := op_ne.or (op_neD hu)
theorem opf_eq : OpF K c b (rEqAll K) dEq := fun F H x y d e Q s rx ry q => by
  unfold dEq at q
  split at q
  · rename_i h
    have h0 := q _ _ _ (Ext.refl s) (.of (.bl _))
    rw [Bool.or_eq_true] at h
    rcases h with h | h
    · obtain ⟨h1, h2⟩ := scal_of rx ry h
      exact .inl ⟨h1, by rw [h2]; exact h0⟩
    · unfold okEq at h
      simp only [Bool.and_eq_true] at h
      exact .inr ⟨d, e, (rx.full s).dp h.1.1, (ry.full s).dp h.2.1, h.1.2, h.2.2, h0⟩
  · exact q.elim
theorem opf_ne : OpF K c b (rNeAll K) dNe := fun F H x y d e Q s rx ry q => by
  unfold dNe at q
  split at q
  · rename_i h
    have h0 := q _ _ _ (Ext.refl s) (.of (.bl _))
    rw [Bool.or_eq_true] at h
    rcases h with h | h
    · obtain ⟨h1, h2⟩ := scal_of rx ry h
      exact .inl ⟨h1, by rw [h2]; exact h0⟩
    · unfold okEq at h
      simp only [Bool.and_eq_true] at h
      exact .inr ⟨d, e, (rx.full s).dp h.1.1, (ry.full s).dp h.2.1, h.1.2, h.2.2, h0⟩
  · exact q.elim
def flatD : D → Bool
  | .none | .bool _ | .int _ | .str _ => true
  | _ => false
theorem flat_of {v : V} {d : D} (r : Rep1 K c F H v d) (h : flatD d = true) : flatV v = true := by
  unfold flatD at h
  split at h <;> first
    | (cases h; done)
    | (rw [r.non]; rfl) | (rw [r.bl]; rfl) | (rw [r.int]; rfl) | (rw [r.str]; rfl)
theorem eqV_of {v w : V} {d e : D} (rx : Rep1 K c F H v d) (ry : Rep1 K c F H w e) (hx : flatD d = true) (hy : flatD e = true) : eqV v w = PyData.eqv d e := by
  unfold flatD at hx hy
  split at hx <;> first
    | (cases hx; done)
    | (split at hy <;> first
        | (cases hy; done)
        | (rw [rx.non, ry.non]; rfl) | (rw [rx.non, ry.bl]; rfl) | (rw [rx.non, ry.int]; rfl) | (rw [rx.non, ry.str]; rfl)
        | (rw [rx.bl, ry.non]; rfl) | (rw [rx.bl, ry.bl]; rfl) | (rw [rx.bl, ry.int]; rfl) | (rw [rx.bl, ry.str]; rfl)
        | (rw [rx.int, ry.non]; rfl) | (rw [rx.int, ry.bl]; rfl) | (rw [rx.int, ry.int]; rfl) | (rw [rx.int, ry.str]; rfl)
        | (rw [rx.str, ry.non]; rfl) | (rw [rx.str, ry.bl]; rfl) | (rw [rx.str, ry.int]; rfl) | (rw [rx.str, ry.str]; rfl))
theorem flats_of : ∀ {xs : List V} {ds : List D}, RepL K c.cls F xs ds → ds.all flatD = true → xs.all flatV = true
  | _, _, .nil, _ => rfl
  | _, _, .cons r t, h => by
    rw [List.all_cons, Bool.and_eq_true] at h ⊢
    exact ⟨flat_of (H := F) (.inl r) h.1, flats_of t h.2⟩
theorem inV_of {v : V} {d : D} (rx : Rep1 K c F H v d) (hx : flatD d = true) : ∀ {xs : List V} {ds : List D}, RepL K c.cls F xs ds → ds.all flatD = true → inV v xs = ds.any fun e => PyData.eqv e d
  | _, _, .nil, _ => rfl
  | _, _, .cons (v := w) (vs := ws) (d := e) (ds := es) r t, h => by
    rw [List.all_cons, Bool.and_eq_true] at h
    have h1 : eqV w v = PyData.eqv e d := eqV_of (H := H) (.inl r) rx h.1 hx
    have h2 := inV_of rx hx t h.2
    unfold inV at h2 ⊢
    rw [List.any_cons, List.any_cons, h1, h2]
def rInS (neg : Bool) : R2 := fun x y H Q => ∃ i j, x = .str i ∧ y = .str j ∧ Q (.bl (if neg then !(!(Builtin.Str.occurrences j i 0 j.length 1).isEmpty) else !(Builtin.Str.occurrences j i 0 j.length 1).isEmpty)) H
def rInAll (K : PySem.W.Frag) (neg : Bool) : R2 := fun x y H Q => rIn K neg x y H Q ∨ rInS neg x y H Q
theorem op_inAll {X : Cx} : OpR X (compareOp .In) (rInAll X.K false) := op_in_seq.or op_in_str
theorem op_notInAll {X : Cx} : OpR X (compareOp .NotIn) (rInAll X.K true) := op_notIn_seq.or op_notIn_str
def dInB : D → D → O Bool
  | d, .list es => if (flatD d && es.all flatD) = true then .ok (es.any fun e => PyData.eqv e d) else .bad
  | d, .tuple es => if (flatD d && es.all flatD) = true then .ok (es.any fun e => PyData.eqv e d) else .bad
  | .str i, .str j => .ok (!(Builtin.Str.occurrences j i 0 j.length 1).isEmpty)
  | _, _ => .bad
def negB : Bool → Bool → Bool
  | true, k => !k
  | false, k => k
theorem negB_if (neg k : Bool) : (if neg = true then !k else k) = negB neg k := by cases neg <;> rfl
def dIn (neg : Bool) (d e : D) : O D := (dInB d e).bind fun k => .ok (.bool (negB neg k))
theorem opf_in {neg : Bool} : OpF K c b (rInAll K neg) (dIn neg) := fun F H x y d e Q s rx ry q => by
  replace q := OPost.bind q
  unfold dInB at q
  split at q
  · rename_i es
    have ry : Rep1 K c F H y (.list es) := ry
    split at q
    · rename_i h
      rw [Bool.and_eq_true] at h
      obtain ⟨a, us, rfl, h1, r1⟩ := ry.lst s
      refine .inl ⟨a, us, rfl, .inl (SqL.of h1), flat_of rx h.1, flats_of r1 h.2, ?_⟩
      rw [inV_of rx h.1 r1 h.2, negB_if]
      exact q _ _ _ (Ext.refl s) (.of (.bl _))
    · exact q.elim
  · rename_i es
    have ry : Rep1 K c F H y (.tuple es) := ry
    split at q
    · rename_i h
      rw [Bool.and_eq_true] at h
      obtain ⟨a, us, rfl, h1, r1, _⟩ := ry.tup s
      refine .inl ⟨a, us, rfl, .inr h1, flat_of rx h.1, flats_of r1 h.2, ?_⟩
      rw [inV_of rx h.1 r1 h.2, negB_if]
      exact q _ _ _ (Ext.refl s) (.of (.bl _))
    · exact q.elim
  · rename_i i j
    have rx : Rep1 K c F H x (.str i) := rx
    have ry : Rep1 K c F H y (.str j) := ry
    refine .inr ⟨i, j, rx.str, ry.str, ?_⟩
    rw [negB_if]
    exact q _ _ _ (Ext.refl s) (.of (.bl _))
  · exact q.elim
def isNon : D → Bool
  | .none => true
  | _ => false
theorem isNon_of {v : V} {d : D} (r : Rep1 K c F H v d) : decide (v = .non) = isNon d := by
  rcases r with r | ⟨a, xs, ds, rfl, rfl, _⟩
  · cases r <;> rfl
  · rfl
def dIsN (d e : D) : O D := if isNon e = true then .ok (.bool (isNon d)) else .bad
def dNotN (d e : D) : O D := if isNon e = true then .ok (.bool (!isNon d)) else .bad
theorem non_of {v : V} {d : D} (r : Rep1 K c F H v d) (h : isNon d = true) : v = .non := by
  unfold isNon at h
  split at h
  · exact r.non
  · cases h
theorem opf_isN : OpF K c b (fun x y H Q => y = .non ∧ Q (.bl (decide (x = .non))) H) dIsN := fun F H x y d e Q s rx ry q => by
  unfold dIsN at q
  split at q
  · rename_i h
    refine ⟨non_of ry h, ?_⟩
    rw [isNon_of rx]
    exact q _ _ _ (Ext.refl s) (.of (.bl _))
  · exact q.elim
theorem opf_notN : OpF K c b (fun x y H Q => y = .non ∧ Q (.bl (!decide (x = .non))) H) dNotN := fun F H x y d e Q s rx ry q => by
  unfold dNotN at q
  split at q
  · rename_i h
    refine ⟨non_of ry h, ?_⟩
    rw [isNon_of rx]
    exact q _ _ _ (Ext.refl s) (.of (.bl _))
  · exact q.elim
/-! ### subscripts -/
def dIx : D → D → O D
  | .list ds, .int i => match atI ds i with
    | some d => .ok d
    | none => .bad
  | .tuple ds, .int i => match atI ds i with
    | some d => .ok d
    | none => .bad
  | .dict [(.none, .list ds)], .int i => match atI ds i with
    | some d => .ok d
    | none => .bad
  | .str z, .int i => if z.length ≤ lim then (match atI z.cps.toList i with
    | some x => .ok (.str ⟨#[x]⟩)
    | none => .bad) else .bad
  | _, _ => .bad
theorem atI_rep {xs : List V} {ds : List D} {i : Int} {d : D} (r : RepL K c.cls F xs ds) (h : atI ds i = some d) : ∃ v, atI xs i = some v ∧ Rep K c.cls F v d := by
  unfold atI at h ⊢
  rw [r.length]
  cases e : ixN ds.length i with
  | none => rw [e] at h; cases h
  | some j =>
    rw [e] at h
    exact r.get h
theorem opf_ix : OpF K c b (rIx K) dIx := fun F H x y d e Q s rx ry q => by
  unfold dIx at q
  split at q
  · rename_i ds i
    have rx : Rep1 K c F H x (.list ds) := rx
    have ry : Rep1 K c F H y (.int i) := ry
    split at q
    · rename_i d h
      obtain ⟨a, us, rfl, h1, r1⟩ := rx.lst s
      obtain ⟨v, h2, r2⟩ := atI_rep r1 h
      exact .inl ⟨a, us, i, v, rfl, ry.int, SqL.of h1, h2, q _ _ _ (Ext.refl s) (.of r2)⟩
    · exact q.elim
  · rename_i ds i
    have rx : Rep1 K c F H x (.tuple ds) := rx
    have ry : Rep1 K c F H y (.int i) := ry
    split at q
    · rename_i d h
      obtain ⟨a, us, rfl, h1, r1, _⟩ := rx.tup s
      obtain ⟨v, h2, r2⟩ := atI_rep r1 h
      exact .inr (.inl ⟨a, us, i, v, rfl, ry.int, h1, h2, q _ _ _ (Ext.refl s) (.of r2)⟩)
    · exact q.elim
  · rename_i ds i
    have rx : Rep1 K c F H x (D.ro ds) := rx
    have ry : Rep1 K c F H y (.int i) := ry
    split at q
    · rename_i d h
      obtain ⟨a, us, rfl, h1, r1⟩ := rx.roL s
      obtain ⟨v, h2, r2⟩ := atI_rep r1 h
      exact .inl ⟨a, us, i, v, rfl, ry.int, h1, h2, q _ _ _ (Ext.refl s) (.of r2)⟩
    · exact q.elim
  · rename_i z i
    have rx : Rep1 K c F H x (.str z) := rx
    have ry : Rep1 K c F H y (.int i) := ry
    split at q
    · rename_i hl
      split at q
      · rename_i d h
        exact .inr (.inr ⟨z, i, d, rx.str, ry.int, le_lim hl, h, q _ _ _ (Ext.refl s) (.of (.str _))⟩)
      · exact q.elim
    · exact q.elim
  · exact q.elim
end
end Fn

set_option Elab.async false
set_option linter.all false
set_option maxRecDepth 100000
/-! Slices, fields, built-in calls, own defs by data. -/
namespace Fn
open PySem PySem.Spec L2

section
variable {K : PySem.W.Frag} {c : Ct} {own : List Nat} {b : Bool} {F H F' H' : Hp} {σ : St} {ρ : Rho}
/-! ### slices -/
def PP1 (c : Ct) (σ : St) (F H : Hp) (Q : Option Int → Hp → Prop) : O (Option Int) → Prop := OPost (fun k => ∀ H' F', Ext F H F' H' → Q k H') fun n => ∀ H', Same H H' → c.W (.ref (c.xc n)) none σ H'
def FP (K : PySem.W.Frag) (c : Ct) (own : List Nat) (t : TO) (g : Rho → O (Option Int)) : Prop := ∀ σ H F ρ Q, Sim K c.cls c.B own σ H F ρ → PP1 c σ F H Q (g ρ) → t σ H Q
def gNoP : Rho → O (Option Int) := fun _ => .ok none
def gPart (g : Rho → O D) : Rho → O (Option Int) := fun ρ => (g ρ).bind fun d => match d with
  | .int i => .ok (some i)
  | _ => .bad
theorem fp_none : FP K c own tNoPart gNoP := fun σ H F ρ Q S q => q H F (Ext.refl S.s)
theorem fp_some {t : TE} {g : Rho → O D} (h : FE K c own false t g) : FP K c own (tPart t) (gPart g) := fun σ H F ρ Q S q => by
  refine h σ H F ρ _ S (OPost.imp (fun d q v H1 F1 e1 r1 => ?_) (fun _ q => q) (OPost.bind q))
  split at q
  · rename_i i
    have r1 : Rep1 K c F1 H1 v (.int i) := r1
    exact ⟨i, r1.int, q H1 F1 e1⟩
  · exact q.elim
def cutL {α : Type} (xs : List α) (lo hi : Option Int) : List α := (xs.drop (HT.sIx xs.length 0 lo)).take (HT.sIx xs.length xs.length hi - HT.sIx xs.length 0 lo)
theorem cut_rep {xs : List V} {ds : List D} (r : RepL K c.cls F xs ds) (lo hi : Option Int) : RepL K c.cls F (cutV xs lo hi) (cutL ds lo hi) := by
  unfold cutV cutL
  rw [r.length]
  exact RepL.take _ (RepL.drop _ r)
def wholeCut (n : Nat) (lo hi : Option Int) : Bool := decide (HT.sIx n 0 lo = 0) && decide (HT.sIx n n hi = n)
def rSlAll (K : PySem.W.Frag) : V → Option Int → Option Int → Hp → VK → Prop := fun x lo hi H Q => rSlL K x lo hi H Q ∨ rSlT K x lo hi H Q ∨ rSlS x lo hi H Q
theorem sl_all {X : Cx} : SlR X (rSlAll X.K) := sl_list.or (sl_tup.or sl_str)
def dSl : D → Option Int → Option Int → O D
  | .list ds, lo, hi => .ok (.list (cutL ds lo hi))
  | .tuple ds, lo, hi => if wholeCut ds.length lo hi = true then .bad else .ok (.tuple (cutL ds lo hi))
  | .str z, lo, hi => if z.length ≤ lim then .ok (.str (cutS z lo hi)) else .bad
  | _, _, _ => .bad
def gSl (g : Rho → O D) (gl gh : Rho → O (Option Int)) : Rho → O D := fun ρ => (g ρ).bind fun d => (gl ρ).bind fun lo => (gh ρ).bind fun hi => dSl d lo hi
theorem dSl_ex : ∀ d lo hi n, dSl d lo hi ≠ .ex n := fun d lo hi n h => by
  unfold dSl at h
  split at h <;> (try split at h) <;> cases h
theorem fe_slice {t : TE} {tl th : TO} {g : Rho → O D} {gl gh : Rho → O (Option Int)} (h : FE K c own false t g) (hl : FP K c own tl gl) (hh : FP K c own th gh) : FE K c own b (tSl (rSlAll K) t tl th) (gSl g gl gh) := fun σ H F ρ Q S q => by
  refine h σ H F ρ _ S (OPost.imp (fun d q v H1 F1 e1 r1 => ?_) (fun _ q => q) (OPost.bind q))
  refine hl σ H1 F1 ρ _ (S.ext e1) (OPost.imp (fun lo q H2 F2 e2 => ?_) (fun _ q H2 s => q H2 (e1.h.trans s)) (OPost.bind q))
  refine hh σ H2 F2 ρ _ ((S.ext e1).ext e2) (OPost.imp (fun hi q H3 F3 e3 => ?_) (fun _ q H2 s => q H2 ((e1.trans e2).h.trans s)) (OPost.bind q))
  have r3 : Rep1 K c F3 H3 v d := Rep1.ext r1 (e2.trans e3)
  have e := (e1.trans e2).trans e3
  unfold dSl at q
  split at q
  · rename_i ds _ _
    have r3 : Rep1 K c F3 H3 v (.list ds) := r3
    obtain ⟨a, us, rfl, h1, r⟩ := r3.lst e.s
    exact .inl ⟨a, us, rfl, SqL.of h1, fun p hp => q _ _ _ (e.trans (Ext.new e.s hp)) (.of (.ls upd_same ((cut_rep r _ _).mono (same_upd (e.s.free hp)))))⟩
  · rename_i ds _ _
    have r3 : Rep1 K c F3 H3 v (.tuple ds) := r3
    obtain ⟨a, us, rfl, h1, r, _⟩ := r3.tup e.s
    split at q
    · exact q.elim
    · rename_i hw
      refine .inr (.inl ⟨a, us, rfl, h1, fun z => hw ?_, fun p hp => q _ _ _ (e.trans (Ext.new e.s hp)) (.of (.tp (SqT.of upd_same) ((cut_rep r _ _).mono (same_upd (e.s.free hp)))))⟩)
      unfold wholeCut
      rw [← r.length, decide_eq_true z.1, decide_eq_true z.2]
      rfl
  · rename_i z _ _
    have r3 : Rep1 K c F3 H3 v (.str z) := r3
    split at q
    · rename_i hl
      exact .inr (.inr ⟨z, r3.str, le_lim hl, q _ _ _ e (.of (.str _))⟩)
    · exact q.elim
  · exact q.elim
def dSlL : D → Option Int → Option Int → O D
  | .list ds, lo, hi => .ok (.list (cutL ds lo hi))
  | _, _, _ => .bad
def gSlL (g : Rho → O D) (gl gh : Rho → O (Option Int)) : Rho → O D := fun ρ => (g ρ).bind fun d => (gl ρ).bind fun lo => (gh ρ).bind fun hi => dSlL d lo hi
theorem fo_slice {t : TE} {tl th : TO} {g : Rho → O D} {gl gh : Rho → O (Option Int)} (h : FE K c own false t g) (hl : FP K c own tl gl) (hh : FP K c own th gh) : FO K c own (tSl (rSlL K) t tl th) (gSlL g gl gh) := fun σ H F ρ Q S q => by
  refine h σ H F ρ _ S (OPost.imp (fun d q v H1 F1 e1 r1 => ?_) (fun _ q => q) (OPost.bind q))
  refine hl σ H1 F1 ρ _ (S.ext e1) (OPost.imp (fun lo q H2 F2 e2 => ?_) (fun _ q H2 s => q H2 (e1.h.trans s)) (OPost.bind q))
  refine hh σ H2 F2 ρ _ ((S.ext e1).ext e2) (OPost.imp (fun hi q H3 F3 e3 => ?_) (fun _ q H2 s => q H2 ((e1.trans e2).h.trans s)) (OPost.bind q))
  have r3 : Rep1 K c F3 H3 v d := Rep1.ext r1 (e2.trans e3)
  have e := (e1.trans e2).trans e3
  unfold dSlL at q
  split at q
  · rename_i ds _ _
    have r3 : Rep1 K c F3 H3 v (.list ds) := r3
    obtain ⟨a, us, rfl, h1, r⟩ := r3.lst e.s
    obtain ⟨es, ee, q⟩ := q
    cases ee
    exact ⟨a, us, rfl, SqL.of h1, fun p hp => q p _ _ F3 (e.trans (Ext.newO e.s hp)) upd_same (e.s.free hp) (e.h.free hp) (cut_rep r _ _)⟩
  · exact q.elim
/-! ### fields -/
def gFld (f : Str) (k : Nat) (g : Rho → O D) : Rho → O D := fun ρ => (g ρ).bind fun d => match d with
  | .dict ((.bool true, .int j) :: gs) => if j = (k : Int) then (match fieldD f gs with
    | some e => .ok e
    | none => .bad) else .bad
  | _ => .bad
theorem fe_fld {t : TE} {g : Rho → O D} {f : Str} {k : Nat} (cl : Cls K (c.cls k)) (na : NoAttr K (c.cls k) f) (h : FE K c own false t g) : FE K c own b (tFld K t f) (gFld f k g) := fun σ H F ρ Q S q => by
  refine h σ H F ρ _ S (OPost.imp (fun d q v H1 F1 e1 r1 => ?_) (fun _ q => q) (OPost.bind q))
  split at q
  · rename_i j gs
    split at q
    · rename_i hj
      subst hj
      split at q
      · rename_i e hf
        have r1 : Rep1 K c F1 H1 v (D.ob k gs) := r1
        obtain ⟨a, dx, fs, rfl, h1, rf⟩ := r1.obj e1.s
        obtain ⟨w, h2, r2⟩ := rf.lookup hf
        exact ⟨a, c.cls k, dx, fs, w, rfl, h1, cl, na, h2, q _ _ _ e1 (.of r2)⟩
      · exact q.elim
    · exact q.elim
  · exact q.elim
/-! ### built-in calls -/
def bLen : List D → O D
  | [.list ds] => .ok (.int ds.length)
  | [.tuple ds] => .ok (.int ds.length)
  | [.dict [(.none, .list ds)]] => .ok (.int ds.length)
  | [.str z] => if z.length ≤ lim then .ok (.int z.length) else .bad
  | _ => .bad
theorem paired1 {α β : Type} {G : α → β → Prop} {xs : List α} {y : β} (h : Paired G xs [y]) : ∃ x, xs = [x] ∧ G x y := by
  cases h with
  | cons r t => cases t; exact ⟨_, rfl, r⟩
theorem paired2 {α β : Type} {G : α → β → Prop} {xs : List α} {y z : β} (h : Paired G xs [y, z]) : ∃ x x', xs = [x, x'] ∧ G x y ∧ G x' z := by
  cases h with
  | cons r t =>
    obtain ⟨x', rfl, r'⟩ := paired1 t
    exact ⟨_, _, rfl, r, r'⟩
theorem cf_len : CallF K c b (fun xs H Q => ∃ x n, xs = [x] ∧ LenV K x H n ∧ Q (.int n) H) bLen := fun F H xs ds Q s r q => by
  unfold bLen at q
  split at q
  · rename_i ds
    obtain ⟨x, rfl, rr⟩ := paired1 r
    have r : Rep1 K c F H x (.list ds) := rr
    obtain ⟨a, us, rfl, h1, r1⟩ := r.lst s
    exact ⟨_, us.length, rfl, .inl ⟨us, SqL.of h1, rfl⟩, by rw [r1.length]; exact q _ _ _ (Ext.refl s) (.of (.int _))⟩
  · rename_i ds
    obtain ⟨x, rfl, rr⟩ := paired1 r
    have r : Rep1 K c F H x (.tuple ds) := rr
    obtain ⟨a, us, rfl, h1, r1, _⟩ := r.tup s
    exact ⟨_, us.length, rfl, .inr ⟨us, h1, rfl⟩, by rw [r1.length]; exact q _ _ _ (Ext.refl s) (.of (.int _))⟩
  · rename_i ds
    obtain ⟨x, rfl, rr⟩ := paired1 r
    have r : Rep1 K c F H x (D.ro ds) := rr
    obtain ⟨a, us, rfl, h1, r1⟩ := r.roL s
    exact ⟨_, us.length, rfl, .inl ⟨us, h1, rfl⟩, by rw [r1.length]; exact q _ _ _ (Ext.refl s) (.of (.int _))⟩
  · rename_i z
    obtain ⟨x, rfl, rr⟩ := paired1 r
    have r : Rep1 K c F H x (.str z) := rr
    split at q
    · rename_i hl
      exact ⟨_, z.length, rfl, by rw [r.str]; exact ⟨le_lim hl, rfl⟩, q _ _ _ (Ext.refl s) (.of (.int _))⟩
    · exact q.elim
  · exact q.elim
/-- list(x): a new list -/
def rListOf (K : PySem.W.Frag) : List V → Hp → VK → Prop := fun xs H Q => ∃ p ys, xs = [.ref p] ∧ (SqL K H p ys ∨ SqT K H p ys) ∧ ∀ l, H l = none → Q (.ref l) (upd H l (.lst ys))
def bListL : List D → O (List D)
  | [.list ds] => .ok ds
  | [.tuple ds] => .ok ds
  | [.dict [(.none, .list ds)]] => .ok ds
  | _ => .bad
def gListOf (g : Rho → O (List D)) : Rho → O D := fun ρ => (g ρ).bind fun ds => (bListL ds).bind fun es => .ok (.list es)
theorem fo_listOf {t : TA} {g : Rho → O (List D)} (h : FA K c own false t g) : FO K c own (tCB (rListOf K) t) (gListOf g) := fun σ H F ρ Q S q => by
  refine h σ H F ρ _ S (OPost.imp (fun ds q vs H1 F1 e r1 => ?_) (fun _ q => q) (OPost.bind q))
  replace q := OPost.bind q
  unfold bListL at q
  split at q
  · rename_i ds
    obtain ⟨x, rfl, rr⟩ := paired1 (show Paired (Rep1 K c F1 H1) vs [PyData.list ds] from r1)
    have r : Rep1 K c F1 H1 x (.list ds) := rr
    obtain ⟨a, us, rfl, h1, r2⟩ := r.lst e.s
    obtain ⟨es, ee, q⟩ := q
    cases ee
    exact ⟨a, us, rfl, .inl (SqL.of h1), fun p hp => q p _ _ F1 (e.trans (Ext.newO e.s hp)) upd_same (e.s.free hp) (e.h.free hp) r2⟩
  · rename_i ds
    obtain ⟨x, rfl, rr⟩ := paired1 (show Paired (Rep1 K c F1 H1) vs [PyData.tuple ds] from r1)
    have r : Rep1 K c F1 H1 x (.tuple ds) := rr
    obtain ⟨a, us, rfl, h1, r2, _⟩ := r.tup e.s
    obtain ⟨es, ee, q⟩ := q
    cases ee
    exact ⟨a, us, rfl, .inr h1, fun p hp => q p _ _ F1 (e.trans (Ext.newO e.s hp)) upd_same (e.s.free hp) (e.h.free hp) r2⟩
  · rename_i ds
    obtain ⟨x, rfl, rr⟩ := paired1 (show Paired (Rep1 K c F1 H1) vs [D.ro ds] from r1)
    have r : Rep1 K c F1 H1 x (D.ro ds) := rr
    obtain ⟨a, us, rfl, h1, r2⟩ := r.roL e.s
    obtain ⟨es, ee, q⟩ := q
    cases ee
    exact ⟨a, us, rfl, .inl h1, fun p hp => q p _ _ F1 (e.trans (Ext.newO e.s hp)) upd_same (e.s.free hp) (e.h.free hp) r2⟩
  · exact q.elim
theorem gListOf_list {g : Rho → O (List D)} : ∀ ρ d, gListOf g ρ = .ok d → ∃ ds, d = .list ds := fun ρ d h => by
  unfold gListOf at h
  cases e : g ρ with
  | ok ds =>
    rw [e, O.bind_ok] at h
    cases e2 : bListL ds with
    | ok es => rw [e2, O.bind_ok] at h; cases h; exact ⟨_, rfl⟩
    | ex n => rw [e2] at h; cases h
    | bad => rw [e2] at h; cases h
  | ex n => rw [e] at h; cases h
  | bad => rw [e] at h; cases h
theorem fe_listOf {t : TA} {g : Rho → O (List D)} (h : FA K c own false t g) : FE K c own b (tCB (rListOf K) t) (gListOf g) := (fo_listOf h).fe gListOf_list
/-- tuple(x) -/
def rTupOf (K : PySem.W.Frag) : List V → Hp → VK → Prop := fun xs H Q => ∃ p ys, xs = [.ref p] ∧ ((SqL K H p ys ∧ ∀ l, H l = none → Q (.ref l) (upd H l (.tup ys))) ∨ (SqT K H p ys ∧ Q (.ref p) H))
def bTup : List D → O D
  | [.list ds] => .ok (.tuple ds)
  | [.tuple ds] => .ok (.tuple ds)
  | _ => .bad
theorem cf_tup : CallF K c b (rTupOf K) bTup := fun F H xs ds Q s r q => by
  unfold bTup at q
  split at q
  · rename_i ds
    obtain ⟨x, rfl, rr⟩ := paired1 r
    have r : Rep1 K c F H x (.list ds) := rr
    obtain ⟨a, us, rfl, h1, r1⟩ := r.lst s
    exact ⟨a, us, rfl, .inl ⟨SqL.of h1, fun l hl => q _ _ _ (Ext.new s hl) (.of (.tp (SqT.of upd_same) (r1.mono (same_upd (s.free hl)))))⟩⟩
  · rename_i ds
    obtain ⟨x, rfl, rr⟩ := paired1 r
    have r : Rep1 K c F H x (.tuple ds) := rr
    obtain ⟨a, us, rfl, h1, r1, rr⟩ := r.tup s
    exact ⟨a, us, rfl, .inr ⟨h1, q _ _ _ (Ext.refl s) (.of rr)⟩⟩
  · exact q.elim
/-- isinstance(x, T), T a built-in class -/
def tyD : D → Option String
  | .none => some "NoneType"
  | .bool _ => some "bool"
  | .int _ => some "int"
  | .str _ => some "str"
  | .list _ => some "list"
  | .tuple _ => some "tuple"
  | .dict [(.none, .list _)] => some "list"
  | .dict _ => none
theorem ty_of {v : V} {d : D} {t : String} (r : Rep1 K c F H v d) (s : Same F H) (h : tyD d = some t) : TyX K H v (.type t) := by
  unfold tyD at h
  split at h <;> (try (cases h; done))
  all_goals (cases h)
  · rw [r.non]; exact .base .non
  · rw [r.bl]; exact .base (.bl _)
  · rw [r.int]; exact .base (.int _)
  · rw [r.str]; exact .base (.str _)
  · obtain ⟨a, us, rfl, h1, _⟩ := r.lst s
    exact .base (.lst h1)
  · obtain ⟨a, us, rfl, h1, _⟩ := r.tup s
    rcases h1 with (h1 | ⟨o, h1⟩) | ⟨o, its, n, h1, h2, _⟩
    · exact .base (.tup h1)
    · exact .fTuple h1
    · exact .kTuple h1 h2
  · obtain ⟨a, us, rfl, h1, _⟩ := r.roL s
    rcases h1 with (h1 | ⟨o, h1⟩) | ⟨o, its, n, h1, h2, _⟩
    · exact .base (.lst h1)
    · exact .base (.frz h1)
    · exact .kList h1 h2
def isTy (t u : String) : Bool := t == u || (t == "bool" && u == "int")
def bIsi (T : String) (d : D) : O D := match tyD d with
  | some t => .ok (.bool (isTy t T))
  | none => .bad
def KitOk (T : String) : Prop := ∀ t ∈ ["NoneType", "bool", "int", "str", "list", "tuple"], kitB t T = some (isTy t T)
theorem tyD_mem {d : D} {t : String} (h : tyD d = some t) : t ∈ ["NoneType", "bool", "int", "str", "list", "tuple"] := by
  unfold tyD at h
  split at h <;> first | (cases h; simp) | cases h
theorem kit_int : KitOk "int" := by unfold KitOk; decide +kernel
theorem kit_bool : KitOk "bool" := by unfold KitOk; decide +kernel
theorem kit_str : KitOk "str" := by unfold KitOk; decide +kernel
theorem kit_list : KitOk "list" := by unfold KitOk; decide +kernel
theorem kit_tuple : KitOk "tuple" := by unfold KitOk; decide +kernel
def gIsi (T : String) (g : Rho → O D) : Rho → O D := fun ρ => (g ρ).bind (bIsi T)
theorem fe_isi {T : String} {t : TE} {g : Rho → O D} (kt : KitOk T) (h : FE K c own false t g) : FE K c own b (tCB (rIsi K) (tCons t (tCons (tC (.ty T)) tNil))) (gIsi T g) := FE.any fun σ H F ρ Q S q => by
  refine h σ H F ρ _ S (OPost.imp (fun d q v H1 F1 e r1 => ?_) (fun _ q => q) (OPost.bind q))
  unfold bIsi at q
  split at q
  · rename_i t ht
    exact ⟨v, .ty T, .type t, .type T, isTy t T, rfl, .ty T, ty_of r1 e.s ht, kit_ty (kt t (tyD_mem ht)), q _ _ _ e (.bl _)⟩
  · exact q.elim
/-- all(xs), any(xs) of a list of True and False -/
def blsD : List D → Option (List Bool)
  | [] => some []
  | .bool k :: r => (blsD r).map (k :: ·)
  | _ => none
theorem blsD_eq : ∀ {ds : List D} {ks : List Bool}, blsD ds = some ks → ds = ks.map PyData.bool
  | [], ks, h => by cases h; rfl
  | .bool k :: r, ks, h => by
    unfold blsD at h
    cases e : blsD r with
    | none => rw [e] at h; cases h
    | some ls =>
      rw [e] at h
      cases h
      rw [blsD_eq e]
      rfl
  | .none :: _, _, h => by cases h
  | .int _ :: _, _, h => by cases h
  | .str _ :: _, _, h => by cases h
  | .list _ :: _, _, h => by cases h
  | .tuple _ :: _, _, h => by cases h
  | .dict _ :: _, _, h => by cases h
def bAll : List D → O D
  | [.list ds] => match blsD ds with
    | some ks => .ok (.bool (ks.all id))
    | none => .bad
  | _ => .bad
def bAny : List D → O D
  | [.list ds] => match blsD ds with
    | some ks => .ok (.bool (ks.any id))
    | none => .bad
  | _ => .bad
theorem cf_all : CallF K c b (rAll K) bAll := fun F H xs ds Q s r q => by
  unfold bAll at q
  split at q
  · rename_i ds
    split at q
    · rename_i ks hk
      obtain ⟨x, rfl, rr⟩ := paired1 r
      have r : Rep1 K c F H x (.list ds) := rr
      obtain ⟨a, us, rfl, h1, r1⟩ := r.lst s
      rw [blsD_eq hk] at r1
      exact ⟨a, ks, rfl, by rw [← RepL.of_bls ks r1]; exact SqL.of h1, q _ _ _ (Ext.refl s) (.of (.bl _))⟩
    · exact q.elim
  · exact q.elim
theorem cf_any : CallF K c b (rAny K) bAny := fun F H xs ds Q s r q => by
  unfold bAny at q
  split at q
  · rename_i ds
    split at q
    · rename_i ks hk
      obtain ⟨x, rfl, rr⟩ := paired1 r
      have r : Rep1 K c F H x (.list ds) := rr
      obtain ⟨a, us, rfl, h1, r1⟩ := r.lst s
      rw [blsD_eq hk] at r1
      exact ⟨a, ks, rfl, by rw [← RepL.of_bls ks r1]; exact SqL.of h1, q _ _ _ (Ext.refl s) (.of (.bl _))⟩
    · exact q.elim
  · exact q.elim
/-- ints -/
def intsD : List D → Option (List Int)
  | [] => some []
  | .int k :: r => (intsD r).map (k :: ·)
  | _ => none
theorem intsD_eq : ∀ {ds : List D} {ks : List Int}, intsD ds = some ks → ds = ks.map PyData.int
  | [], ks, h => by cases h; rfl
  | .int k :: r, ks, h => by
    unfold intsD at h
    cases e : intsD r with
    | none => rw [e] at h; cases h
    | some ls =>
      rw [e] at h
      cases h
      rw [intsD_eq e]
      rfl
  | .none :: _, _, h => by cases h
  | .bool _ :: _, _, h => by cases h
  | .str _ :: _, _, h => by cases h
  | .list _ :: _, _, h => by cases h
  | .tuple _ :: _, _, h => by cases h
  | .dict _ :: _, _, h => by cases h
theorem intsD_map (ks : List Int) : intsD (ks.map PyData.int) = some ks := by
  induction ks with
  | nil => rfl
  | cons k r ih => show (intsD (r.map PyData.int)).map (k :: ·) = _; rw [ih]; rfl
theorem blsD_map (ks : List Bool) : blsD (ks.map PyData.bool) = some ks := by
  induction ks with
  | nil => rfl
  | cons k r ih => show (blsD (r.map PyData.bool)).map (k :: ·) = _; rw [ih]; rfl
def bSum : List D → O D
  | [.list ds] => match intsD ds with
    | some ks => .ok (.int ks.sum)
    | none => .bad
  | _ => .bad
theorem cf_sum : CallF K c b (rSum K) bSum := fun F H xs ds Q s r q => by
  unfold bSum at q
  split at q
  · rename_i ds
    split at q
    · rename_i ks hk
      obtain ⟨x, rfl, rr⟩ := paired1 r
      have r : Rep1 K c F H x (.list ds) := rr
      obtain ⟨a, us, rfl, h1, r1⟩ := r.lst s
      rw [intsD_eq hk] at r1
      exact ⟨a, ks, rfl, by rw [← RepL.of_ints ks r1]; exact SqL.of h1, q _ _ _ (Ext.refl s) (.of (.int _))⟩
    · exact q.elim
  · exact q.elim
def maxL (x : Int) (xs : List Int) : Int := xs.foldl max x
def minL (x : Int) (xs : List Int) : Int := xs.foldl min x
theorem maxL_spec : ∀ (xs : List Int) (x : Int), maxL x xs ∈ x :: xs ∧ ∀ y ∈ x :: xs, y ≤ maxL x xs
  | [], x => ⟨List.mem_cons_self, fun y hy => by cases hy with | head => exact Int.le_refl _ | tail _ h => cases h⟩
  | z :: r, x => by
    obtain ⟨h1, h2⟩ := maxL_spec r (max x z)
    have e : maxL x (z :: r) = maxL (max x z) r := rfl
    rw [e]
    have h3 := h2 _ List.mem_cons_self
    refine ⟨?_, fun y hy => ?_⟩
    · rcases List.mem_cons.mp h1 with q | q
      · rw [q]
        by_cases hxz : x ≤ z
        · rw [Int.max_eq_right hxz]; exact List.mem_cons_of_mem _ List.mem_cons_self
        · rw [Int.max_eq_left (by omega)]; exact List.mem_cons_self
      · exact List.mem_cons_of_mem _ (List.mem_cons_of_mem _ q)
    · rcases List.mem_cons.mp hy with rfl | hy
      · exact Int.le_trans (Int.le_max_left _ _) h3
      · rcases List.mem_cons.mp hy with rfl | hy
        · exact Int.le_trans (Int.le_max_right _ _) h3
        · exact h2 y (List.mem_cons_of_mem _ hy)
theorem minL_spec : ∀ (xs : List Int) (x : Int), minL x xs ∈ x :: xs ∧ ∀ y ∈ x :: xs, minL x xs ≤ y
  | [], x => ⟨List.mem_cons_self, fun y hy => by cases hy with | head => exact Int.le_refl _ | tail _ h => cases h⟩
  | z :: r, x => by
    obtain ⟨h1, h2⟩ := minL_spec r (min x z)
    have e : minL x (z :: r) = minL (min x z) r := rfl
    rw [e]
    have h3 := h2 _ List.mem_cons_self
    refine ⟨?_, fun y hy => ?_⟩
    · rcases List.mem_cons.mp h1 with q | q
      · rw [q]
        by_cases hxz : x ≤ z
        · rw [Int.min_eq_left hxz]; exact List.mem_cons_self
        · rw [Int.min_eq_right (by omega)]; exact List.mem_cons_of_mem _ List.mem_cons_self
      · exact List.mem_cons_of_mem _ (List.mem_cons_of_mem _ q)
    · rcases List.mem_cons.mp hy with rfl | hy
      · exact Int.le_trans h3 (Int.min_le_left _ _)
      · rcases List.mem_cons.mp hy with rfl | hy
        · exact Int.le_trans h3 (Int.min_le_right _ _)
        · exact h2 y (List.mem_cons_of_mem _ hy)
def bMax : List D → O D
  | [.list ds] => match intsD ds with
    | some (k :: ks) => .ok (.int (maxL k ks))
    | _ => .bad
  | [.int i, .int j] => .ok (.int (if j > i then j else i))
  | _ => .bad
def bMin : List D → O D
  | [.list ds] => match intsD ds with
    | some (k :: ks) => .ok (.int (minL k ks))
    | _ => .bad
  | [.int i, .int j] => .ok (.int (if j < i then j else i))
  | _ => .bad
def rMaxAll (K : PySem.W.Frag) : List V → Hp → VK → Prop := fun xs H Q => rMax K xs H Q ∨ ∃ i j, xs = [.int i, .int j] ∧ Q (.int (if j > i then j else i)) H
def rMinAll (K : PySem.W.Frag) : List V → Hp → VK → Prop := fun xs H Q => rMin K xs H Q ∨ ∃ i j, xs = [.int i, .int j] ∧ Q (.int (if j < i then j else i)) H
theorem cr_maxAll {X : Cx} (hc : X.calm = true) : CallR X (.builtin "max") (rMaxAll X.K) := (cr_max hc).or (call_max2 hc)
theorem cr_minAll {X : Cx} (hc : X.calm = true) : CallR X (.builtin "min") (rMinAll X.K) := (cr_min hc).or (call_min2 hc)
theorem cf_max : CallF K c b (rMaxAll K) bMax := fun F H xs ds Q s r q => by
  unfold bMax at q
  split at q
  · rename_i ds
    split at q
    · rename_i k ks hk
      obtain ⟨x, rfl, rr⟩ := paired1 r
      have r : Rep1 K c F H x (.list ds) := rr
      obtain ⟨a, us, rfl, h1, r1⟩ := r.lst s
      rw [intsD_eq hk] at r1
      refine .inl ⟨a, k :: ks, rfl, by rw [← RepL.of_ints _ r1]; exact SqL.of h1, Nat.succ_pos _, fun m h2 h3 => ?_⟩
      obtain ⟨h4, h5⟩ := maxL_spec ks k
      have e : m = maxL k ks := Int.le_antisymm (h5 m h2) (h3 _ h4)
      rw [e]
      exact q _ _ _ (Ext.refl s) (.of (.int _))
    · exact q.elim
  · rename_i i j
    obtain ⟨x, y, rfl, r, r'⟩ := paired2 r
    have r : Rep1 K c F H x (.int i) := r
    have r' : Rep1 K c F H y (.int j) := r'
    exact .inr ⟨i, j, by rw [r.int, r'.int], q _ _ _ (Ext.refl s) (.of (.int _))⟩
  · exact q.elim
theorem cf_min : CallF K c b (rMinAll K) bMin := fun F H xs ds Q s r q => by
  unfold bMin at q
  split at q
  · rename_i ds
    split at q
    · rename_i k ks hk
      obtain ⟨x, rfl, rr⟩ := paired1 r
      have r : Rep1 K c F H x (.list ds) := rr
      obtain ⟨a, us, rfl, h1, r1⟩ := r.lst s
      rw [intsD_eq hk] at r1
      refine .inl ⟨a, k :: ks, rfl, by rw [← RepL.of_ints _ r1]; exact SqL.of h1, Nat.succ_pos _, fun m h2 h3 => ?_⟩
      obtain ⟨h4, h5⟩ := minL_spec ks k
      have e : m = minL k ks := Int.le_antisymm (h3 _ h4) (h5 m h2)
      rw [e]
      exact q _ _ _ (Ext.refl s) (.of (.int _))
    · exact q.elim
  · rename_i i j
    obtain ⟨x, y, rfl, r, r'⟩ := paired2 r
    have r : Rep1 K c F H x (.int i) := r
    have r' : Rep1 K c F H y (.int j) := r'
    exact .inr ⟨i, j, by rw [r.int, r'.int], q _ _ _ (Ext.refl s) (.of (.int _))⟩
  · exact q.elim
def bAbs : List D → O D
  | [.int i] => .ok (.int (if i < 0 then -i else i))
  | _ => .bad
theorem cf_abs : CallF K c b (fun xs H Q => ∃ i, xs = [.int i] ∧ Q (.int (if i < 0 then -i else i)) H) bAbs := fun F H xs ds Q s r q => by
  unfold bAbs at q
  split at q
  · rename_i i
    obtain ⟨x, rfl, rr⟩ := paired1 r
    have r : Rep1 K c F H x (.int i) := rr
    exact ⟨i, by rw [r.int], q _ _ _ (Ext.refl s) (.of (.int _))⟩
  · exact q.elim
/-- int(n), int(flag), int(text) of a text that writes one -/
def rIntAll : List V → Hp → VK → Prop := fun xs H Q => ((∃ i, xs = [.int i] ∧ Q (.int i) H) ∨ ∃ k, xs = [.bl k] ∧ Q (.int (if k then 1 else 0)) H) ∨ ∃ a n, xs = [.str a] ∧ PySem.intText? a = some n ∧ a.length ≤ 640 ∧ Q (.int n) H
theorem cr_intAll {X : Cx} : CallR X (.type "int") rIntAll := call_int1.or call_int_str
def bInt : List D → O D
  | [.int i] => .ok (.int i)
  | [.bool k] => .ok (.int (if k then 1 else 0))
  | [.str a] => if a.length ≤ 640 then (match PySem.intText? a with
    | some n => .ok (.int n)
    | none => .bad) else .bad
  | _ => .bad
theorem cf_int : CallF K c b rIntAll bInt := fun F H xs ds Q s r q => by
  unfold bInt at q
  split at q
  · rename_i i
    obtain ⟨x, rfl, rr⟩ := paired1 r
    have r : Rep1 K c F H x (.int i) := rr
    exact .inl (.inl ⟨i, by rw [r.int], q _ _ _ (Ext.refl s) (.of (.int _))⟩)
  · rename_i i
    obtain ⟨x, rfl, rr⟩ := paired1 r
    have r : Rep1 K c F H x (.bool i) := rr
    exact .inl (.inr ⟨i, by rw [r.bl], q _ _ _ (Ext.refl s) (.of (.int _))⟩)
  · rename_i a
    obtain ⟨x, rfl, rr⟩ := paired1 r
    have r : Rep1 K c F H x (.str a) := rr
    split at q
    · rename_i hl
      split at q
      · rename_i n hn
        exact .inr ⟨a, n, by rw [r.str], hn, hl, q _ _ _ (Ext.refl s) (.of (.int _))⟩
      · exact q.elim
    · exact q.elim
  · exact q.elim
/-- str(n) -/
def bStr : List D → O D
  | [.int i] => if i.natAbs.log2 < 1920 then .ok (.str (toString i)) else .bad
  | _ => .bad
theorem cf_str : CallF K c b (fun xs H Q => ∃ i, xs = [.int i] ∧ i.natAbs.log2 < 1920 ∧ Q (.str (toString i)) H) bStr := fun F H xs ds Q s r q => by
  unfold bStr at q
  split at q
  · rename_i i
    obtain ⟨x, rfl, rr⟩ := paired1 r
    have r : Rep1 K c F H x (.int i) := rr
    split at q
    · rename_i hl
      exact ⟨i, by rw [r.int], hl, q _ _ _ (Ext.refl s) (.of (.str _))⟩
    · exact q.elim
  · exact q.elim
/-! ### chains of comparisons -/
def gChain (op op' : D → D → O D) (ga gb gc : Rho → O D) : Rho → O D := fun ρ => (ga ρ).bind fun d => (gb ρ).bind fun e => (noEx (op d e)).bind fun z => match z with
  | .bool k => if k = true then (gc ρ).bind fun f => noEx (op' e f) else .ok (.bool false)
  | _ => .bad
theorem noEx_bind {α β : Type} {P : β → Prop} {E : Nat → Prop} {o : O α} {f : α → O β} (h : OPost P E ((noEx o).bind f)) : OPost (fun a => OPost P E (f a)) (fun _ => False) o := by
  cases o with
  | ok a => exact h
  | ex n => exact h.elim
  | bad => exact h.elim
theorem fe_chain {r r' : R2} {op op' : D → D → O D} {ta tb tc : TE} {ga gb gc : Rho → O D} (ho : OpF K c true r op) (ho' : OpF K c b r' op') (ha : FE K c own false ta ga) (hb : FE K c own false tb gb) (hc : FE K c own false tc gc) :
    FE K c own b (tChain r r' ta tb tc) (gChain op op' ga gb gc) := fun σ H F ρ Q S q => by
  refine ha σ H F ρ _ S (OPost.imp (fun d q v H1 F1 e1 r1 => ?_) (fun _ q => q) (OPost.bind q))
  refine hb σ H1 F1 ρ _ (S.ext e1) (OPost.imp (fun e q w H2 F2 e2 r2 => ?_) (fun _ q H2 s => q H2 (e1.h.trans s)) (OPost.bind q))
  have r2 : Rep1 K c F2 H2 w e := r2
  refine ho F2 H2 v w d e _ e2.s (r1.ext e2) r2 (OPost.imp (fun z q u H3 F3 e3 r3 => ?_) (fun _ q => q) (noEx_bind q))
  split at q
  · rename_i k
    cases (show Rep K c.cls F3 u (.bool k) from r3)
    refine ⟨k, rfl, ?_⟩
    have e123 := (e1.trans e2).trans e3
    split at q
    · rename_i hk
      subst hk
      rw [if_pos rfl]
      refine hc σ H3 F3 ρ _ (S.ext e123) (OPost.imp (fun f q y H4 F4 e4 r4 => ?_) (fun _ q H2 s => q H2 (e123.h.trans s)) (OPost.bind q))
      exact ho' F4 H4 w y e f Q e4.s (r2.ext (e3.trans e4)) r4 (OPost.imp (fun z q u H5 F5 e5 r5 => q u H5 F5 ((e123.trans e4).trans e5) r5) (fun _ q => q) (noEx_post q))
    · rename_i hk
      rw [if_neg hk]
      exact q _ _ _ e123 (.of (.bl _))
  · exact q.elim
end
end Fn

set_option Elab.async false
set_option linter.all false
set_option maxRecDepth 100000
/-! Statements by data. -/
namespace Fn
open PySem PySem.Spec L2

/-- how a statement ends -/
inductive R where
  | nx (ρ : Rho) | rt (d : D) | bk (ρ : Rho) | ct (ρ : Rho) | ex (n : Nat) | bad
def R.seq : R → (Rho → R) → R
  | .nx ρ, f => f ρ
  | r, _ => r
theorem R.seq_nx (ρ : Rho) (f : Rho → R) : (R.nx ρ).seq f = f ρ := rfl
theorem R.seq_rt (d : D) (f : Rho → R) : (R.rt d).seq f = .rt d := rfl
theorem R.seq_bk (ρ : Rho) (f : Rho → R) : (R.bk ρ).seq f = .bk ρ := rfl
theorem R.seq_ct (ρ : Rho) (f : Rho → R) : (R.ct ρ).seq f = .ct ρ := rfl
theorem R.seq_ex (n : Nat) (f : Rho → R) : (R.ex n).seq f = .ex n := rfl
theorem R.seq_bad (f : Rho → R) : R.bad.seq f = .bad := rfl
/-- from an expression's outcome on -/
def O.go {α : Type} : O α → (α → R) → R
  | .ok a, f => f a
  | .ex n, _ => .ex n
  | .bad, _ => .bad
theorem O.go_ok {α : Type} (a : α) (f : α → R) : (O.ok a).go f = f a := rfl
theorem O.go_ex {α : Type} (n : Nat) (f : α → R) : (O.ex n : O α).go f = .ex n := rfl
theorem O.go_bad {α : Type} (f : α → R) : (O.bad : O α).go f = .bad := rfl

section
variable (K : PySem.W.Frag) (c : Ct)
/-- the tables stand, and are not frozen -/
def TF (T : List (Addr × Str)) (H F : Hp) : Prop := LamX.Tabs T H ∧ ∀ p ∈ T, F p.1 = none
/-- what a return gives: data that stand frozen; or (fr) a list of its own, new -/
def RetP (F0 H0 : Hp) (T : List (Addr × Str)) : Bool → VK → D → Prop
  | false, R, d => ∀ v H' F', Ext F0 H0 F' H' → TF T H' F' → Rep K c.cls F' v d → R v H'
  | true, R, d => ∃ ds, d = .list ds ∧ ∀ p xs H' F', Ext F0 H0 F' H' → TF T H' F' → H' p = some (.lst xs) → F' p = none → H0 p = none → RepL K c.cls F' xs ds → R (.ref p) H'
def SPost (ol own' : List Nat) (F : Hp) (D : Ends) : R → Prop
  | .nx ρ => ∀ σ' H' F', Same F F' → Sim K c.cls c.B own' σ' H' F' ρ → D.nx σ' H'
  | .rt d => RetP K c c.B.2.1 c.B.1 c.B.2.2 c.fr D.rt d
  | .bk ρ => ∀ σ' H' F', Same F F' → Sim K c.cls c.B ol σ' H' F' ρ → D.bk σ' H'
  | .ct ρ => ∀ σ' H' F', Same F F' → Sim K c.cls c.B ol σ' H' F' ρ → D.ct σ' H'
  | .ex n => ∀ σ' H', Same c.B.1 H' → c.W (.ref (c.xc n)) none σ' H'
  | .bad => False
def FS (ol own own' : List Nat) (t : TS) (g : Rho → R) : Prop := ∀ D σ H F ρ, Sim K c.cls c.B own σ H F ρ → SPost K c ol own' F D (g ρ) → t D σ H
end
section
variable {K : PySem.W.Frag} {c : Ct} {ol own own' own1 own2 : List Nat} {b : Bool} {F H F' H' : Hp} {σ : L2.St} {ρ : Rho} {D : Ends}
theorem SPost.mono {r : R} (h : SPost K c ol own' F D r) (s : Same F F') : SPost K c ol own' F' D r := by
  cases r with
  | nx ρ => exact fun σ' H' F2 e => h σ' H' F2 (s.trans e)
  | rt d => exact h
  | bk ρ => exact fun σ' H' F2 e => h σ' H' F2 (s.trans e)
  | ct ρ => exact fun σ' H' F2 e => h σ' H' F2 (s.trans e)
  | ex n => exact h
  | bad => exact h
/-- from an expression's outcome on -/
theorem SPost.go {α : Type} {P : α → Prop} {E : Nat → Prop} {f : α → R} : ∀ {o : O α}, SPost K c ol own' F D (o.go f) → (∀ a, SPost K c ol own' F D (f a) → P a) → (∀ n, (∀ σ' H', Same c.B.1 H' → c.W (.ref (c.xc n)) none σ' H') → E n) → OPost P E o
  | .ok a, h, h1, _ => h1 a h
  | .ex n, h, _, h2 => h2 n h
  | .bad, h, _, _ => h
def sameB (xs ys : List Nat) : Bool := xs.all ys.contains && ys.all xs.contains
theorem sameB_iff {xs ys : List Nat} (h : sameB xs ys = true) : ∀ i, i ∈ xs ↔ i ∈ ys := fun i => by
  unfold sameB at h
  rw [Bool.and_eq_true, List.all_eq_true, List.all_eq_true] at h
  exact ⟨fun z => List.contains_iff_mem.mp (h.1 i z), fun z => List.contains_iff_mem.mp (h.2 i z)⟩
def subB (xs ys : List Nat) : Bool := xs.all ys.contains
theorem subB_of {xs ys : List Nat} (h : subB xs ys = true) : ∀ i, i ∈ xs → i ∈ ys := fun i z => by
  unfold subB at h
  rw [List.all_eq_true] at h
  exact List.contains_iff_mem.mp (h i z)
/-! ### blocks -/
def gNext : Rho → R := .nx
def gSeq (g h : Rho → R) : Rho → R := fun ρ => (g ρ).seq h
theorem fs_next : FS K c ol own own tNext gNext := fun D σ H F ρ S q => q σ H F (Same.refl _) S
theorem fs_seq {t u : TS} {g h : Rho → R} (h1 : FS K c ol own own1 t g) (h2 : FS K c ol own1 own2 u h) : FS K c ol own own2 (tSeq t u) (gSeq g h) := fun D σ H F ρ S q => by
  refine h1 { D with nx := u D } σ H F ρ S ?_
  unfold gSeq at q
  cases e : g ρ with
  | nx ρ' =>
    rw [e] at q
    exact fun σ' H' F' s S' => h2 D σ' H' F' ρ' S' (SPost.mono q s)
  | rt d => rw [e] at q; exact q
  | bk ρ' => rw [e] at q; exact q
  | ct ρ' => rw [e] at q; exact q
  | ex n => rw [e] at q; exact q
  | bad => rw [e] at q; exact q
/-- some slots own no more -/
theorem fs_freeze {t : TS} {g : Rho → R} (own1 : List Nat) (h : FS K c ol own1 own' t g) (hs : subB own1 own = true) : FS K c ol own own' t g := fun D σ H F ρ S q => by
  obtain ⟨F', s, S'⟩ := S.shrink (subB_of hs)
  exact h D σ H F' ρ S' (SPost.mono q s)
theorem fs_weak {t : TS} {g : Rho → R} (own1 : List Nat) (h : FS K c ol own own1 t g) (hs : subB own' own1 = true) : FS K c ol own own' t g := fun D σ H F ρ S q => by
  refine h D σ H F ρ S ?_
  cases e : g ρ with
  | nx ρ' =>
    rw [e] at q
    exact fun σ' H' F' s S' => by
      obtain ⟨F2, s2, S2⟩ := S'.shrink (subB_of hs)
      exact q σ' H' F2 (s.trans s2) S2
  | rt d => rw [e] at q; exact q
  | bk ρ' => rw [e] at q; exact q
  | ct ρ' => rw [e] at q; exact q
  | ex n => rw [e] at q; exact q
  | bad => rw [e] at q; exact q
/-! ### if -/
def gIfS (g : Rho → O Bool) (u w : Rho → R) : Rho → R := fun ρ => (g ρ).go fun k => if k = true then u ρ else w ρ
theorem fs_if {t : TT} {u w : TS} {g : Rho → O Bool} {gu gw : Rho → R} (h : FT K c own t g) (hu : FS K c ol own own' u gu) (hw : FS K c ol own own' w gw) : FS K c ol own own' (tIfS t u w) (gIfS g gu gw) := fun D σ H F ρ S q => by
  refine h σ H F ρ _ S (SPost.go q (fun k q H1 F1 e => ?_) fun n q H1 s => q σ H1 (S.b.h.trans s))
  cases k with
  | true =>
    rw [if_pos rfl] at q ⊢
    exact hu D σ H1 F1 ρ (S.ext e) (SPost.mono q e.f)
  | false =>
    rw [if_neg Bool.false_ne_true] at q ⊢
    exact hw D σ H1 F1 ρ (S.ext e) (SPost.mono q e.f)
/-! ### names -/
def gSet (i : Nat) (g : Rho → O PyData) : Rho → R := fun ρ => (g ρ).go fun d => .nx (ρ.set i (some d))
theorem notIn_of {i : Nat} (h : own.contains i = false) : own.filter (fun j => j != i) = own := List.filter_eq_self.mpr fun j hj => by
  have : j ≠ i := fun z => by
    subst z
    rw [List.contains_iff_mem.mpr hj] at h
    cases h
  simpa using this
theorem fs_set {t : TE} {g : Rho → O PyData} {i : Nat} (h : FE K c own true t g) (hi : own.contains i = false) : FS K c ol own own (tAsg t (gName i)) (gSet i g) := fun D σ H F ρ S q => by
  refine h σ H F ρ _ S (SPost.go q (fun d q v H1 F1 e r => ?_) fun n q H1 s => q σ H1 (S.b.h.trans s))
  have S2 := (S.ext e).set i (show Rep K c.cls F1 v d from r)
  rw [notIn_of hi] at S2
  exact q _ _ _ e.f S2
/-- a slot that owned a list gets another value -/
theorem fs_setF {t : TE} {g : Rho → O PyData} {i : Nat} (h : FE K c own true t g) (hs : sameB (own.filter fun j => j != i) own' = true) : FS K c ol own own' (tAsg t (gName i)) (gSet i g) := fun D σ H F ρ S q => by
  refine h σ H F ρ _ S (SPost.go q (fun d q v H1 F1 e r => ?_) fun n q H1 s => q σ H1 (S.b.h.trans s))
  exact q _ _ _ e.f (((S.ext e).set i (show Rep K c.cls F1 v d from r)).perm (sameB_iff hs))
theorem fs_setO {t : TE} {g : Rho → O PyData} {i : Nat} (h : FO K c own t g) (hl : ∀ ρ d, g ρ = .ok d → ∃ ds, d = .list ds) (hs : sameB (i :: own.filter fun j => j != i) own' = true) : FS K c ol own own' (tAsg t (gName i)) (gSet i g) := fun D σ H F ρ S q => by
  refine h σ H F ρ _ S ?_
  unfold gSet at q
  cases hg : g ρ with
  | ok d =>
    rw [hg] at q
    obtain ⟨ds, rfl⟩ := hl ρ d hg
    refine ⟨ds, rfl, fun a xs H1 F1 e h1 h2 h3 r => ?_⟩
    refine q _ _ _ e.f (((S.ext e).setO i h1 r h2 (S.b.h.free h3) fun j x d hj hn hr hx => ?_).perm (sameB_iff hs))
    obtain ⟨a', xs', ds', _, k2, k3, _⟩ := S.ow j d hj hr
    rw [k2] at hx
    cases hx
    intro z
    rw [z, h3] at k3
    cases k3
  | ex n => rw [hg] at q; exact fun H1 s => q σ H1 (S.b.h.trans s)
  | bad => rw [hg] at q; exact q.elim
/-! ### targets -/
def FG (K : PySem.W.Frag) (c : Ct) (own : List Nat) (g : TG) (f : PyData → Rho → O Rho) : Prop := ∀ v d σ H F ρ Q, Sim K c.cls c.B own σ H F ρ → Rep K c.cls F v d → OPost (fun ρ' => ∀ σ', Sim K c.cls c.B own σ' H F ρ' → Q σ' H) (fun _ => False) (f d ρ) → g v σ H Q
def FGs (K : PySem.W.Frag) (c : Ct) (own : List Nat) (g : TGs) (f : List PyData → Rho → O Rho) : Prop := ∀ vs ds σ H F ρ Q, Sim K c.cls c.B own σ H F ρ → RepL K c.cls F vs ds → OPost (fun ρ' => ∀ σ', Sim K c.cls c.B own σ' H F ρ' → Q σ' H) (fun _ => False) (f ds ρ) → g vs σ H Q
def aName (i : Nat) : PyData → Rho → O Rho := fun d ρ => .ok (ρ.set i (some d))
def aTup (f : List PyData → Rho → O Rho) : PyData → Rho → O Rho
  | .tuple ds, ρ => f ds ρ
  | _, _ => .bad
def aNil : List PyData → Rho → O Rho
  | [], ρ => .ok ρ
  | _, _ => .bad
def aCons (f : PyData → Rho → O Rho) (fs : List PyData → Rho → O Rho) : List PyData → Rho → O Rho
  | d :: ds, ρ => (f d ρ).bind fun ρ' => fs ds ρ'
  | [], _ => .bad
theorem fg_name {i : Nat} (hi : own.contains i = false) : FG K c own (gName i) (aName i) := fun v d σ H F ρ Q S r q => by
  have S2 := S.set i r
  rw [notIn_of hi] at S2
  exact q _ S2
theorem fgs_nil : FGs K c own gNil aNil := fun vs ds σ H F ρ Q S r q => by
  unfold aNil at q
  split at q
  · cases r
    exact ⟨rfl, q _ S⟩
  · exact q.elim
theorem fgs_cons {g : TG} {gs : TGs} {f : PyData → Rho → O Rho} {fs : List PyData → Rho → O Rho} (h : FG K c own g f) (hs : FGs K c own gs fs) : FGs K c own (gCons g gs) (aCons f fs) := fun vs ds σ H F ρ Q S r q => by
  unfold aCons at q
  split at q
  · rename_i d ds
    cases r with
    | cons r t =>
      refine ⟨_, _, rfl, h _ _ σ H F ρ _ S r (OPost.imp (fun ρ' q σ' S' => ?_) (fun _ q => q) (OPost.bind q))⟩
      exact hs _ _ σ' H F ρ' Q S' t q
  · exact q.elim
theorem fg_tup {n : Nat} {gs : TGs} {fs : List PyData → Rho → O Rho} (h : FGs K c own gs fs) (hn : ∀ ds ρ, ds.length ≠ n → fs ds ρ = .bad) : FG K c own (L2.gTup K n gs) (aTup fs) := fun v d σ H F ρ Q S r q => by
  unfold aTup at q
  split at q
  · rename_i ds
    cases r with
    | tp h1 r =>
      refine ⟨_, _, rfl, Same.tup S.s h1, ?_, h _ _ σ H F ρ Q S r q⟩
      rw [r.length]
      by_cases e : ds.length = n
      · exact e
      · rw [hn ds ρ e] at q
        exact q.elim
  · exact q.elim
theorem aNil_len : ∀ ds ρ, ds.length ≠ 0 → aNil ds ρ = .bad := fun ds ρ h => by
  cases ds with
  | nil => exact absurd rfl h
  | cons d ds => rfl
theorem aCons_len {n : Nat} {f : PyData → Rho → O Rho} {fs : List PyData → Rho → O Rho} (h : ∀ ds ρ, ds.length ≠ n → fs ds ρ = .bad) (hx : ∀ d ρ k, f d ρ ≠ .ex k) : ∀ ds ρ, ds.length ≠ n + 1 → aCons f fs ds ρ = .bad := fun ds ρ hn => by
  cases ds with
  | nil => rfl
  | cons d ds =>
    have h' := fun ρ' => h ds ρ' (fun z => hn (by rw [List.length_cons, z]))
    show (f d ρ).bind _ = _
    cases e : f d ρ with
    | ok ρ' => exact h' ρ'
    | ex k => exact absurd e (hx d ρ k)
    | bad => rfl
theorem aName_ex {i : Nat} : ∀ d ρ k, aName i d ρ ≠ .ex k := fun d ρ k h => by cases h
theorem aNil_ex : ∀ ds ρ k, aNil ds ρ ≠ .ex k := fun ds ρ k h => by cases ds <;> cases h
theorem aCons_ex {f : PyData → Rho → O Rho} {fs : List PyData → Rho → O Rho} (h : ∀ d ρ k, f d ρ ≠ .ex k) (hs : ∀ ds ρ k, fs ds ρ ≠ .ex k) : ∀ ds ρ k, aCons f fs ds ρ ≠ .ex k := fun ds ρ k e => by
  cases ds with
  | nil => cases e
  | cons d ds =>
    have e : (f d ρ).bind _ = .ex k := e
    cases e2 : f d ρ with
    | ok ρ' => rw [e2] at e; exact hs ds ρ' k e
    | ex n => exact h d ρ n e2
    | bad => rw [e2] at e; cases e
theorem aTup_ex {fs : List PyData → Rho → O Rho} (hs : ∀ ds ρ k, fs ds ρ ≠ .ex k) : ∀ d ρ k, aTup fs d ρ ≠ .ex k := fun d ρ k e => by
  unfold aTup at e
  split at e
  · exact hs _ _ _ e
  · cases e
def gAsg (f : PyData → Rho → O Rho) (g : Rho → O PyData) : Rho → R := fun ρ => (g ρ).go fun d => (f d ρ).go .nx
theorem fs_asg {t : TE} {g : Rho → O PyData} {tg : TG} {f : PyData → Rho → O Rho} (h : FE K c own true t g) (hg : FG K c own tg f) (hx : ∀ d ρ k, f d ρ ≠ .ex k) : FS K c ol own own (tAsg t tg) (gAsg f g) := fun D σ H F ρ S q => by
  refine h σ H F ρ _ S (SPost.go q (fun d q v H1 F1 e r => ?_) fun n q H1 s => q σ H1 (S.b.h.trans s))
  refine hg v d σ H1 F1 ρ _ (S.ext e) r ?_
  cases ho : f d ρ with
  | ok ρ' =>
    rw [ho] at q
    exact fun σ' S' => q σ' H1 F1 e.f S'
  | ex k => exact absurd ho (hx d ρ k)
  | bad => rw [ho] at q; exact q.elim
/-! ### expressions as statements, return -/
def gDrop (g : Rho → O PyData) : Rho → R := fun ρ => (g ρ).go fun _ => .nx ρ
theorem fs_drop {t : TE} {g : Rho → O PyData} (h : FE K c own false t g) : FS K c ol own own (tDrop t) (gDrop g) := fun D σ H F ρ S q => by
  refine h σ H F ρ _ S (SPost.go q (fun d q v H1 F1 e r => ?_) fun n q H1 s => q σ H1 (S.b.h.trans s))
  exact q σ H1 F1 e.f (S.ext e)
def gRet (g : Rho → O PyData) : Rho → R := fun ρ => (g ρ).go .rt
theorem fs_ret {t : TE} {g : Rho → O PyData} (h : FE K c [] true t g) (hf : c.fr = false := by rfl) : FS K c ol own own' (tRet t) (gRet g) := fun D σ H F ρ S q => by
  obtain ⟨F', s, S'⟩ := S.shrink (own' := []) (fun i z => absurd z List.not_mem_nil)
  refine h σ H F' ρ _ S' (SPost.go (SPost.mono q s) (fun d q v H1 F1 e r => ?_) fun n q H1 s => q σ H1 (S.b.h.trans s))
  have q : RetP K c c.B.2.1 c.B.1 c.B.2.2 c.fr D.rt d := q
  rw [hf] at q
  exact q v H1 F1 ((S'.ext e).b) ⟨(S'.ext e).tb, (S'.ext e).ft⟩ r
def gRetN : Rho → R := fun _ => .rt .none
theorem fs_retN (hf : c.fr = false := by rfl) : FS K c ol own own' tRetN gRetN := fun D σ H F ρ S q => by
  have q : RetP K c c.B.2.1 c.B.1 c.B.2.2 c.fr D.rt .none := q
  rw [hf] at q
  exact q .non H F S.b ⟨S.tb, S.ft⟩ .non
/-- a new list is told -/
theorem fs_retO {t : TE} {g : Rho → O PyData} (h : FO K c own t g) (hl : ∀ ρ d, g ρ = .ok d → ∃ ds, d = .list ds) (hf : c.fr = true := by rfl) : FS K c ol own own' (tRet t) (gRet g) := fun D σ H F ρ S q => by
  refine h σ H F ρ _ S ?_
  unfold gRet at q
  cases hg : g ρ with
  | ok d =>
    rw [hg] at q
    obtain ⟨ds, rfl⟩ := hl ρ d hg
    have q : RetP K c c.B.2.1 c.B.1 c.B.2.2 c.fr D.rt (.list ds) := q
    rw [hf] at q
    obtain ⟨es, e0, q2⟩ := q
    cases e0
    exact ⟨ds, rfl, fun a xs H1 F1 e h1 h2 h3 r => q2 a xs H1 F1 (S.ext e).b ⟨(S.ext e).tb, (S.ext e).ft⟩ h1 h2 (S.b.h.free h3) r⟩
  | ex n => rw [hg] at q; exact fun H1 s => q σ H1 (S.b.h.trans s)
  | bad => rw [hg] at q; exact q.elim
/-- a list of its own is told -/
theorem fs_retV {i : Nat} (hi : own.contains i = true) (hf : c.fr = true := by rfl) : FS K c ol own own' (tRet (tVar i)) (gRet (gVar i)) := fun D σ H F ρ S q => by
  unfold gRet at q
  cases hg : gVar i ρ with
  | ok d =>
    rw [hg] at q
    have q : RetP K c c.B.2.1 c.B.1 c.B.2.2 c.fr D.rt d := q
    rw [hf] at q
    obtain ⟨ds, rfl, q2⟩ := q
    have hv : ρ[i]? = some (some (.list ds)) := by
      unfold gVar at hg
      split at hg
      · rename_i e; cases hg; exact e
      · cases hg
    obtain ⟨a, xs, ds', e0, k1, k2, k3, k4, k5⟩ := S.ow i _ (List.contains_iff_mem.mp hi) hv
    cases e0
    exact ⟨_, k1, q2 a xs H F S.b ⟨S.tb, S.ft⟩ k2 k4 k5 k3⟩
  | ex n =>
    unfold gVar at hg
    split at hg <;> cases hg
  | bad => rw [hg] at q; exact q.elim
def gBreak : Rho → R := .bk
def gCont : Rho → R := .ct
theorem fs_break (hs : subB ol own = true) : FS K c ol own own' tBreak gBreak := fun D σ H F ρ S q => by
  obtain ⟨F', s, S'⟩ := S.shrink (subB_of hs)
  exact q σ H F' s S'
theorem fs_cont (hs : subB ol own = true) : FS K c ol own own' tCont gCont := fun D σ H F ρ S q => by
  obtain ⟨F', s, S'⟩ := S.shrink (subB_of hs)
  exact q σ H F' s S'
def gRaise (n : Nat) : Rho → R := fun _ => .ex n
theorem fs_raise {n : Nat} {C : Addr} {W : WX} (hW : c.W = W) (hn : c.xc n = C) : FS K c ol own own' (fun _ σ H => W (.ref C) none σ H) (gRaise n) := fun D σ H F ρ S q => by
  subst hW hn
  exact q σ H S.b.h
/-! ### lists that change -/
def lsAt (i : Nat) (ρ : Rho) : O (List PyData) := match ρ[i]? with
  | some (some (.list ds)) => .ok ds
  | _ => .bad
theorem lsAt_ok {i : Nat} {ds : List PyData} (h : lsAt i ρ = .ok ds) : ρ[i]? = some (some (.list ds)) := by
  unfold lsAt at h
  split at h
  · rename_i e; cases h; exact e
  · cases h
theorem lsAt_ex {i n : Nat} (h : lsAt i ρ = .ex n) : False := by
  unfold lsAt at h
  split at h <;> cases h
def gAppend (i : Nat) (g : Rho → O PyData) : Rho → R := fun ρ => (lsAt i ρ).go fun _ => (g ρ).go fun d => (lsAt i ρ).go fun ds => if ds.length < lim then .nx (ρ.set i (some (.list (ds ++ [d])))) else .bad
theorem SPost.ls {i : Nat} {f : List PyData → R} (h : SPost K c ol own' F D ((lsAt i ρ).go f)) : ∃ ds, ρ[i]? = some (some (.list ds)) ∧ SPost K c ol own' F D (f ds) := by
  cases e : lsAt i ρ with
  | ok ds => rw [e] at h; exact ⟨ds, lsAt_ok e, h⟩
  | ex n => exact (lsAt_ex e).elim
  | bad => rw [e] at h; exact h.elim
theorem fs_append {i : Nat} {t : TE} {g : Rho → O PyData} (h : FE K c own true t g) (hi : own.contains i = true) : FS K c ol own own (tDrop (tBM K "list" rAppend (tVar i) (tCons t tNil))) (gAppend i g) := fun D σ H F ρ S q => by
  have hi' := List.contains_iff_mem.mp hi
  obtain ⟨ds0, e0, q⟩ := SPost.ls q
  obtain ⟨a0, xs0, k1, k2, k3, k4⟩ := S.mut hi' e0
  refine ⟨_, k1, .inl ⟨rfl, xs0, SqL.of k2⟩, ?_⟩
  refine h σ H F ρ _ S (SPost.go q (fun d q v H1 F1 e r => ?_) fun n q H1 s => q σ H1 (S.b.h.trans s))
  obtain ⟨ds, e1, q⟩ := SPost.ls q
  rw [e0] at e1
  cases e1
  obtain ⟨a, xs, m1, m2, m3, m4⟩ := (S.ext e).mut hi' e0
  rw [k1] at m1
  cases m1
  split at q
  · rename_i hl
    refine ⟨a0, xs, v, rfl, rfl, m2, by rw [m3.length]; exact lt_lim hl, ?_⟩
    exact q σ _ F1 e.f (m4 _ _ (m3.append (.cons r .nil)))
  · exact q.elim
def gExtend (i : Nat) (g : Rho → O PyData) : Rho → R := fun ρ => (lsAt i ρ).go fun _ => (g ρ).go fun d => match d with
  | .list es => (lsAt i ρ).go fun ds => if ds.length + es.length ≤ lim then .nx (ρ.set i (some (.list (ds ++ es)))) else .bad
  | _ => .bad
theorem fs_extend {i : Nat} {t : TE} {g : Rho → O PyData} (h : FE K c own false t g) (hi : own.contains i = true) : FS K c ol own own (tDrop (tBM K "list" rExtend (tVar i) (tCons t tNil))) (gExtend i g) := fun D σ H F ρ S q => by
  have hi' := List.contains_iff_mem.mp hi
  obtain ⟨ds0, e0, q⟩ := SPost.ls q
  obtain ⟨a0, xs0, k1, k2, k3, k4⟩ := S.mut hi' e0
  refine ⟨_, k1, .inl ⟨rfl, xs0, SqL.of k2⟩, ?_⟩
  refine h σ H F ρ _ S (SPost.go q (fun d q v H1 F1 e r => ?_) fun n q H1 s => q σ H1 (S.b.h.trans s))
  split at q
  · rename_i es
    have r : Rep1 K c F1 H1 v (.list es) := r
    obtain ⟨ds, e1, q⟩ := SPost.ls q
    rw [e0] at e1
    cases e1
    obtain ⟨a, xs, m1, m2, m3, m4⟩ := (S.ext e).mut hi' e0
    rw [k1] at m1
    cases m1
    split at q
    · rename_i hl
      obtain ⟨a2, ys, rfl, n2, n3⟩ := r.lst e.s
      refine ⟨a0, a2, xs, ys, rfl, rfl, m2, n2, by rw [m3.length, n3.length]; exact le_lim hl, ?_⟩
      exact q σ _ F1 e.f (m4 _ _ (m3.append n3))
    · exact q.elim
  · exact q.elim
def gClear (i : Nat) : Rho → R := fun ρ => (lsAt i ρ).go fun _ => .nx (ρ.set i (some (.list [])))
theorem fs_clear {i : Nat} (hi : own.contains i = true) : FS K c ol own own (tDrop (tBM0 K "list" rClear (tVar i))) (gClear i) := fun D σ H F ρ S q => by
  obtain ⟨ds0, e0, q⟩ := SPost.ls q
  obtain ⟨a0, xs0, k1, k2, k3, k4⟩ := S.mut (List.contains_iff_mem.mp hi) e0
  exact ⟨_, k1, .inl ⟨rfl, xs0, SqL.of k2⟩, a0, xs0, rfl, rfl, k2, q σ _ F (Same.refl _) (k4 _ _ .nil)⟩
/-- x = xs.pop() -/
def gPopSet (j i : Nat) : Rho → R := fun ρ => (lsAt i ρ).go fun ds => match ds[ds.length - 1]? with
  | some d => .nx ((ρ.set i (some (.list ds.dropLast))).set j (some d))
  | none => .bad
theorem RepL.dropLast {xs : List V} {ds : List PyData} (h : RepL K c.cls F xs ds) : RepL K c.cls F xs.dropLast ds.dropLast := by
  rw [List.dropLast_eq_take, List.dropLast_eq_take, h.length]
  exact RepL.take _ h
theorem fs_popSet {i j : Nat} (hi : own.contains i = true) (hj : own.contains j = false) : FS K c ol own own (tAsg (tBM0 K "list" rPop (tVar i)) (gName j)) (gPopSet j i) := fun D σ H F ρ S q => by
  obtain ⟨ds0, e0, q⟩ := SPost.ls q
  obtain ⟨a0, xs0, k1, k2, k3, k4⟩ := S.mut (List.contains_iff_mem.mp hi) e0
  split at q
  · rename_i d hd
    obtain ⟨v, h1, h2⟩ := k3.get hd
    refine ⟨_, k1, .inl ⟨rfl, xs0, SqL.of k2⟩, a0, xs0, v, rfl, rfl, k2, by rw [k3.length]; exact h1, ?_⟩
    have S2 := (k4 _ _ k3.dropLast).set j h2
    rw [notIn_of hj] at S2
    exact q _ _ _ (Same.refl _) S2
  · exact q.elim
/-- xs[k] = e -/
def gSetIx (i : Nat) (gi g : Rho → O PyData) : Rho → R := fun ρ => (g ρ).go fun d => (lsAt i ρ).go fun _ => (gi ρ).go fun k => match k with
  | .int k => (lsAt i ρ).go fun ds => match ixN ds.length k with
    | some j => .nx (ρ.set i (some (.list (ds.set j d))))
    | none => .bad
  | _ => .bad
theorem fs_setIx {i : Nat} {t ti : TE} {g gi : Rho → O PyData} (h : FE K c own true t g) (hk : FE K c own false ti gi) (hi : own.contains i = true) : FS K c ol own own (tAsg t (gSub (tVar i) ti rSetL)) (gSetIx i gi g) := fun D σ H F ρ S q => by
  have hi' := List.contains_iff_mem.mp hi
  refine h σ H F ρ _ S (SPost.go q (fun d q v H1 F1 e r => ?_) fun n q H1 s => q σ H1 (S.b.h.trans s))
  have S1 := S.ext e
  obtain ⟨ds0, e0, q⟩ := SPost.ls q
  obtain ⟨a0, xs0, k1, k2, k3, k4⟩ := S1.mut hi' e0
  refine ⟨_, k1, ?_⟩
  refine hk σ H1 F1 ρ _ S1 (SPost.go q (fun k q w H2 F2 e2 r2 => ?_) fun n q H1 s => q σ H1 (S1.b.h.trans s))
  split at q
  · rename_i k
    have r2 : Rep1 K c F2 H2 w (.int k) := r2
    obtain ⟨ds, e1, q⟩ := SPost.ls q
    rw [e0] at e1
    cases e1
    obtain ⟨a, xs, m1, m2, m3, m4⟩ := (S1.ext e2).mut hi' e0
    rw [k1] at m1
    cases m1
    split at q
    · rename_i j hj
      refine ⟨a0, xs, k, j, rfl, r2.int, m2, by rw [m3.length]; exact hj, ?_⟩
      have r : Rep K c.cls F1 v d := r
      exact q σ _ F2 (e.f.trans e2.f) (m4 _ _ (m3.set j (r.mono e2.f)))
    · exact q.elim
  · exact q.elim
/-- x += e of whole numbers -/
def gAugI (f : Int → Int → Int) (i : Nat) (g : Rho → O PyData) : Rho → R := fun ρ => match ρ[i]? with
  | some (some (.int k)) => (g ρ).go fun d => match d with
    | .int m => .nx (ρ.set i (some (.int (f k m))))
    | _ => .bad
  | _ => .bad
theorem fs_augI {f : Int → Int → Int} {i : Nat} {t : TE} {g : Rho → O PyData} (h : FE K c own false t g) (hi : own.contains i = false) : FS K c ol own own (tAug i t (ipI f)) (gAugI f i g) := fun D σ H F ρ S q => by
  unfold gAugI at q
  split at q
  · rename_i k e0
    obtain ⟨v, h1, h2⟩ := S.fro i _ (fun z => by rw [List.contains_iff_mem.mpr z] at hi; cases hi) e0
    cases h2
    refine ⟨_, h1, ?_⟩
    refine h σ H F ρ _ S (SPost.go q (fun d q w H1 F1 e r => ?_) fun n q H1 s => q σ H1 (S.b.h.trans s))
    split at q
    · rename_i m
      have r : Rep1 K c F1 H1 w (.int m) := r
      refine ⟨k, m, rfl, r.int, ?_⟩
      have S2 := (S.ext e).set i (show Rep K c.cls F1 (V.int (f k m)) (.int (f k m)) from .int _)
      rw [notIn_of hi] at S2
      exact q _ _ _ e.f S2
    · exact q.elim
  · exact q.elim
/-! ### what is walked -/
def ItOk (K : PySem.W.Frag) (c : Ct) (J : It) (F0 : Hp) (ds : List PyData) : Prop := ∀ F H, Same F0 F → Same F H → ∀ i,
  (i < ds.length → J.go i H) ∧ (i = ds.length → J.stop i H) ∧ ∀ x H' d, ds[i]? = some d → J.yld i H x H' → ∃ F', Ext F H F' H' ∧ Rep K c.cls F' x d
def FI (K : PySem.W.Frag) (c : Ct) (own : List Nat) (t : TI) (g : Rho → O (List PyData)) : Prop := ∀ σ H F ρ R, Sim K c.cls c.B own σ H F ρ →
  OPost (fun ds => ∀ J H' F', Ext F H F' H' → ItOk K c J F' ds → R J H') (fun n => ∀ H', Same H H' → c.W (.ref (c.xc n)) none σ H') (g ρ) → t σ H R
def itemsL : PyData → O (List PyData)
  | .list ds => .ok ds
  | _ => .bad
def itemsT : PyData → O (List PyData)
  | .tuple ds => .ok ds
  | _ => .bad
def gItL (g : Rho → O PyData) : Rho → O (List PyData) := fun ρ => (g ρ).bind itemsL
def gItT (g : Rho → O PyData) : Rho → O (List PyData) := fun ρ => (g ρ).bind itemsT
theorem fi_list {t : TE} {g : Rho → O PyData} (h : FE K c own true t g) : FI K c own (iList K t) (gItL g) := fun σ H F ρ R S q => by
  refine h σ H F ρ _ S (OPost.imp (fun d q v H1 F1 e r => ?_) (fun _ q => q) (OPost.bind q))
  unfold itemsL at q
  split at q
  · rename_i ds
    cases (show Rep K c.cls F1 v (.list ds) from r) with
    | @ls a xs _ h1 r1 =>
      refine ⟨a, rfl, ⟨xs, e.s.seq (SqL.of h1)⟩, q _ _ _ e fun F2 H2 s1 s2 i => ?_⟩
      have sq : SqL K H2 a xs := s2.seq (s1.seq (SqL.of h1))
      refine ⟨fun hi => ?_, fun hi => ⟨xs, sq, by rw [r1.length, hi]; exact Nat.le_refl _⟩, fun x H' d hd y => ?_⟩
      · have hi' : i < xs.length := by rw [r1.length]; exact hi
        exact ⟨xs, xs[i], sq, List.getElem?_eq_getElem hi'⟩
      · obtain ⟨rfl, y⟩ := y
        obtain ⟨v, h2, h3⟩ := r1.get hd
        have hx := y xs sq
        rw [h2] at hx
        cases hx
        exact ⟨F2, Ext.refl s2, h3.mono s1⟩
  · exact q.elim
theorem fi_tup {t : TE} {g : Rho → O PyData} (h : FE K c own false t g) : FI K c own (iTup K t) (gItT g) := fun σ H F ρ R S q => by
  refine h σ H F ρ _ S (OPost.imp (fun d q v H1 F1 e r => ?_) (fun _ q => q) (OPost.bind q))
  unfold itemsT at q
  split at q
  · rename_i ds
    have r : Rep1 K c F1 H1 v (.tuple ds) := r
    obtain ⟨_, _, _, _, _, rr⟩ := r.tup e.s
    cases rr with
    | @tp a xs _ h1 r1 =>
      refine ⟨a, rfl, ⟨xs, Same.tup e.s h1⟩, q _ _ _ e fun F2 H2 s1 s2 i => ?_⟩
      have sq : SqT K H2 a xs := Same.tup s2 (Same.tup s1 h1)
      refine ⟨fun hi => ?_, fun hi => ⟨xs, sq, by rw [r1.length, hi]; exact Nat.le_refl _⟩, fun x H' d hd y => ?_⟩
      · have hi' : i < xs.length := by rw [r1.length]; exact hi
        exact ⟨xs, xs[i], sq, List.getElem?_eq_getElem hi'⟩
      · obtain ⟨rfl, y⟩ := y
        obtain ⟨v, h2, h3⟩ := r1.get hd
        have hx := y xs sq
        rw [h2] at hx
        cases hx
        exact ⟨F2, Ext.refl s2, h3.mono s1⟩
  · exact q.elim
def rangeD (lo : Int) (n : Nat) : List PyData := (List.range n).map fun (i : Nat) => PyData.int (lo + i)
theorem rangeD_length (lo : Int) (n : Nat) : (rangeD lo n).length = n := by unfold rangeD; simp
theorem rangeD_get {lo : Int} {n i : Nat} {d : PyData} (h : (rangeD lo n)[i]? = some d) : d = .int (lo + i) := by
  unfold rangeD at h
  rw [List.getElem?_map] at h
  cases e : (List.range n)[i]? with
  | none => rw [e] at h; cases h
  | some j =>
    rw [e] at h
    have hj := List.getElem?_eq_some_iff.mp e
    obtain ⟨h1, h2⟩ := hj
    rw [List.getElem_range] at h2
    subst h2
    have := Option.some.inj h
    exact this.symm
def rng1 : List PyData → O (List PyData)
  | [.int j] => if -(lim : Int) ≤ j ∧ j ≤ lim then .ok (rangeD 0 j.toNat) else .bad
  | _ => .bad
def rng2 : List PyData → O (List PyData)
  | [.int i, .int j] => if -(lim : Int) ≤ i ∧ i ≤ lim ∧ -(lim : Int) ≤ j ∧ j ≤ lim then .ok (rangeD i (j - i).toNat) else .bad
  | _ => .bad
def gRng1 (g : Rho → O (List PyData)) : Rho → O (List PyData) := fun ρ => (g ρ).bind rng1
def gRng2 (g : Rho → O (List PyData)) : Rho → O (List PyData) := fun ρ => (g ρ).bind rng2
theorem it_range (lo : Int) (n : Nat) (F0 : Hp) : ItOk K c (Itr lo n) F0 (rangeD lo n) := fun F2 H2 s1 s2 i => by
  refine ⟨fun hi => by rw [rangeD_length] at hi; exact hi, fun hi => by rw [rangeD_length] at hi; exact Nat.le_of_eq hi.symm, fun x H' d hd y => ?_⟩
  obtain ⟨rfl, rfl⟩ := y
  rw [rangeD_get hd]
  exact ⟨F2, Ext.refl s2, .int _⟩
theorem fi_range1 {t : TA} {g : Rho → O (List PyData)} (h : FA K c own false t g) : FI K c own (iRng1 t) (gRng1 g) := fun σ H F ρ R S q => by
  refine h σ H F ρ _ S (OPost.imp (fun d q v H1 F1 e r => ?_) (fun _ q => q) (OPost.bind q))
  unfold rng1 at q
  split at q
  · rename_i j
    obtain ⟨x, rfl, rr⟩ := paired1 (show Paired (Rep1 K c F1 H1) v [PyData.int j] from r)
    have rr : Rep1 K c F1 H1 x (.int j) := rr
    split at q
    · rename_i hj
      unfold lim at hj
      exact ⟨j, by rw [rr.int], by omega, by omega, q _ _ _ e (it_range 0 j.toNat F1)⟩
    · exact q.elim
  · exact q.elim
theorem fi_range2 {t : TA} {g : Rho → O (List PyData)} (h : FA K c own false t g) : FI K c own (iRng2 t) (gRng2 g) := fun σ H F ρ R S q => by
  refine h σ H F ρ _ S (OPost.imp (fun d q v H1 F1 e r => ?_) (fun _ q => q) (OPost.bind q))
  unfold rng2 at q
  split at q
  · rename_i i j
    obtain ⟨x, y, rfl, rx, ry⟩ := paired2 (show Paired (Rep1 K c F1 H1) v [PyData.int i, PyData.int j] from r)
    have rx : Rep1 K c F1 H1 x (.int i) := rx
    have ry : Rep1 K c F1 H1 y (.int j) := ry
    split at q
    · rename_i hj
      unfold lim at hj
      exact ⟨i, j, by rw [rx.int, ry.int], by omega, q _ _ _ e (it_range i (j - i).toNat F1)⟩
    · exact q.elim
  · exact q.elim
def enumD (ds : List PyData) : List PyData := ds.mapIdx fun i d => .tuple [.int (i : Nat), d]
def zipD (ds es : List PyData) : List PyData := List.zipWith (fun d e => PyData.tuple [d, e]) ds es
def enumI : List PyData → O (List PyData)
  | [.list ds] => .ok (enumD ds)
  | _ => .bad
def zipI : List PyData → O (List PyData)
  | [.list ds, .list es] => .ok (zipD ds es)
  | _ => .bad
def gEnum (g : Rho → O (List PyData)) : Rho → O (List PyData) := fun ρ => (g ρ).bind enumI
def gZip (g : Rho → O (List PyData)) : Rho → O (List PyData) := fun ρ => (g ρ).bind zipI
theorem fi_enum {t : TA} {g : Rho → O (List PyData)} (h : FA K c own true t g) : FI K c own (iEnum K t) (gEnum g) := fun σ H F ρ R S q => by
  refine h σ H F ρ _ S (OPost.imp (fun d q v H1 F1 e r => ?_) (fun _ q => q) (OPost.bind q))
  unfold enumI at q
  split at q
  · rename_i ds
    have r : RepL K c.cls F1 v [.list ds] := r
    cases r with
    | cons ra t0 =>
      cases t0
      cases ra with
      | @ls a xs _ h1 r1 =>
        refine ⟨a, xs, rfl, e.s.seq (SqL.of h1), q _ _ _ e fun F2 H2 s1 s2 i => ?_⟩
        have sq : SqL K H2 a xs := s2.seq (s1.seq (SqL.of h1))
        have le : (enumD ds).length = xs.length := by unfold enumD; rw [List.length_mapIdx, r1.length]
        refine ⟨fun hi => ?_, fun hi => ⟨xs, sq, by rw [← le, hi]; exact Nat.le_refl _⟩, fun x H' d hd y => ?_⟩
        · have hi' : i < xs.length := by rw [← le]; exact hi
          exact ⟨xs, xs[i], sq, List.getElem?_eq_getElem hi'⟩
        · obtain ⟨T, u, rfl, hT, rfl, y⟩ := y
          unfold enumD at hd
          rw [List.getElem?_mapIdx] at hd
          cases hq : ds[i]? with
          | none => rw [hq] at hd; cases hd
          | some d0 =>
            rw [hq] at hd
            cases hd
            obtain ⟨w, h2, h3⟩ := r1.get hq
            have hx := y xs sq
            rw [h2] at hx
            cases hx
            exact ⟨_, Ext.new s2 hT, .tp (SqT.of upd_same) (.cons (.int _) (.cons ((h3.mono s1).mono (same_upd (s2.free hT))) .nil))⟩
  · exact q.elim
theorem fi_zip {t : TA} {g : Rho → O (List PyData)} (h : FA K c own true t g) : FI K c own (iZip K t) (gZip g) := fun σ H F ρ R S q => by
  refine h σ H F ρ _ S (OPost.imp (fun d q v H1 F1 e r => ?_) (fun _ q => q) (OPost.bind q))
  unfold zipI at q
  split at q
  · rename_i ds es
    have r : RepL K c.cls F1 v [.list ds, .list es] := r
    cases r with
    | cons ra t0 =>
      cases t0 with
      | cons rb t1 =>
        cases t1
        cases ra with
        | @ls a xs _ h1 r1 =>
          cases rb with
          | @ls a' ys _ h1' r1' =>
            refine ⟨a, a', xs, ys, rfl, e.s.seq (SqL.of h1), e.s.seq (SqL.of h1'), q _ _ _ e fun F2 H2 s1 s2 i => ?_⟩
            have sq : SqL K H2 a xs := s2.seq (s1.seq (SqL.of h1))
            have sq' : SqL K H2 a' ys := s2.seq (s1.seq (SqL.of h1'))
            have le : (zipD ds es).length = min xs.length ys.length := by unfold zipD; rw [List.length_zipWith, r1.length, r1'.length]
            refine ⟨fun hi => ?_, fun hi => ⟨xs, ys, sq, sq', ?_⟩, fun x H' d hd y => ?_⟩
            · rw [le] at hi
              have hx : i < xs.length := Nat.lt_of_lt_of_le hi (Nat.min_le_left _ _)
              have hy : i < ys.length := Nat.lt_of_lt_of_le hi (Nat.min_le_right _ _)
              exact ⟨xs, ys, xs[i], ys[i], sq, sq', List.getElem?_eq_getElem hx, List.getElem?_eq_getElem hy⟩
            · rw [le] at hi
              by_cases z : xs.length ≤ ys.length
              · rw [Nat.min_eq_left z] at hi; exact .inl (Nat.le_of_eq hi.symm)
              · rw [Nat.min_eq_right (by omega)] at hi; exact .inr (Nat.le_of_eq hi.symm)
            · obtain ⟨T, u, u', rfl, hT, rfl, y1, y2⟩ := y
              unfold zipD at hd
              rw [List.getElem?_zipWith] at hd
              cases hq : ds[i]? with
              | none => rw [hq] at hd; cases hd
              | some d0 =>
                cases hq' : es[i]? with
                | none => rw [hq, hq'] at hd; cases hd
                | some e0 =>
                  rw [hq, hq'] at hd
                  cases hd
                  obtain ⟨w, h2, h3⟩ := r1.get hq
                  obtain ⟨w', h2', h3'⟩ := r1'.get hq'
                  have hx := y1 xs sq
                  rw [h2] at hx
                  cases hx
                  have hx' := y2 ys sq'
                  rw [h2'] at hx'
                  cases hx'
                  exact ⟨_, Ext.new s2 hT, .tp (SqT.of upd_same) (.cons ((h3.mono s1).mono (same_upd (s2.free hT))) (.cons ((h3'.mono s1).mono (same_upd (s2.free hT))) .nil))⟩
  · exact q.elim
def strItems (z : Str) : List PyData := z.cps.toList.map fun x => .str ⟨#[x]⟩
def itemsS : PyData → O (List PyData)
  | .str z => .ok (strItems z)
  | _ => .bad
def gItS (g : Rho → O PyData) : Rho → O (List PyData) := fun ρ => (g ρ).bind itemsS
theorem fi_str {t : TE} {g : Rho → O PyData} (h : FE K c own false t g) : FI K c own (iStr t) (gItS g) := fun σ H F ρ R S q => by
  refine h σ H F ρ _ S (OPost.imp (fun d q v H1 F1 e r => ?_) (fun _ q => q) (OPost.bind q))
  unfold itemsS at q
  split at q
  · rename_i z
    have r : Rep1 K c F1 H1 v (.str z) := r
    refine ⟨z, r.str, q _ _ _ e fun F2 H2 s1 s2 i => ?_⟩
    have le : (strItems z).length = z.cps.size := by unfold strItems; simp
    refine ⟨fun hi => by rw [le] at hi; exact hi, fun hi => by rw [le] at hi; exact Nat.le_of_eq hi.symm, fun x H' d hd y => ?_⟩
    obtain ⟨rfl, k, hk, rfl⟩ := y
    unfold strItems at hd
    rw [List.getElem?_map, Array.getElem?_toList, hk] at hd
    cases hd
    exact ⟨F2, Ext.refl s2, .str _⟩
  · exact q.elim
/-- a list, a tuple, a text -/
def iAny (K : PySem.W.Frag) (t : TE) : TI := fun σ H R => iList K t σ H R ∨ iTup K t σ H R ∨ iStr t σ H R
theorem PI.or {X : Cx} {tg e : Expr} {w1 w2 : TI} (h1 : PI X tg e w1) (h2 : PI X tg e w2) : PI X tg e (fun σ H R => w1 σ H R ∨ w2 σ H R) := ⟨fun pins s σ H R I h => h.elim (h1.run pins s σ H R I) (h2.run pins s σ H R I)⟩
theorem pi_any {X : Cx} {tg e : Expr} {t : TE} (h : PE X e t) : PI X tg e (iAny X.K t) := PI.or (pi_list h) (PI.or (pi_tup h) (pi_str h))
def itemsA : PyData → O (List PyData)
  | .list ds => .ok ds
  | .tuple ds => .ok ds
  | .str z => .ok (strItems z)
  | _ => .bad
def gItA (g : Rho → O PyData) : Rho → O (List PyData) := fun ρ => (g ρ).bind itemsA
theorem fi_any {t : TE} {g : Rho → O PyData} (h : FE K c own true t g) : FI K c own (iAny K t) (gItA g) := fun σ H F ρ R S q => by
  unfold gItA at q
  cases hg : g ρ with
  | ok d =>
    rw [hg, O.bind_ok] at q
    cases d with
    | list ds =>
      refine .inl (fi_list h σ H F ρ R S ?_)
      unfold gItL
      rw [hg]
      exact q
    | tuple ds =>
      refine .inr (.inl (fi_tup h.weak σ H F ρ R S ?_))
      unfold gItT
      rw [hg]
      exact q
    | str z =>
      refine .inr (.inr (fi_str h.weak σ H F ρ R S ?_))
      unfold gItS
      rw [hg]
      exact q
    | none => exact q.elim
    | bool _ => exact q.elim
    | int _ => exact q.elim
    | dict _ => exact q.elim
  | ex n =>
    refine .inl (fi_list h σ H F ρ R S ?_)
    unfold gItL
    rw [hg] at q ⊢
    exact q
  | bad => rw [hg] at q; exact q.elim
/-! ### for -/
def forL (f : PyData → Rho → O Rho) (body : Rho → R) : List PyData → Rho → R
  | [], ρ => .nx ρ
  | d :: ds, ρ => (f d ρ).go fun ρ1 => match body ρ1 with
    | .nx ρ2 => forL f body ds ρ2
    | .ct ρ2 => forL f body ds ρ2
    | .bk ρ2 => .nx ρ2
    | .rt e => .rt e
    | .ex n => .ex n
    | .bad => .bad
def gFor (f : PyData → Rho → O Rho) (gi : Rho → O (List PyData)) (body : Rho → R) : Rho → R := fun ρ => (gi ρ).go fun ds => forL f body ds ρ
theorem fs_for {wi : TI} {tg : TG} {tb : TS} {gi : Rho → O (List PyData)} {f : PyData → Rho → O Rho} {body : Rho → R} (hi : FI K c own wi gi) (hg : FG K c own tg f) (hx : ∀ d ρ k, f d ρ ≠ .ex k) (hb : FS K c own own own tb body) :
    FS K c ol own own (tFor wi tg tb) (gFor f gi body) := fun D σ H F ρ S q => by
  refine hi σ H F ρ _ S (SPost.go q (fun ds q J H1 F1 e it => ?_) fun n q H1 s => q σ H1 (S.b.h.trans s))
  refine ⟨fun i m σ2 H2 => m = ds.length - i ∧ i ≤ ds.length ∧ ∃ F2 ρ2, Same F1 F2 ∧ Sim K c.cls c.B own σ2 H2 F2 ρ2 ∧ SPost K c ol own F2 D (forL f body (ds.drop i) ρ2),
    ⟨ds.length, by omega, Nat.zero_le _, F1, ρ, Same.refl _, S.ext e, SPost.mono q e.f⟩, ?_⟩
  rintro i m σ2 H2 ⟨rfl, hle, F2, ρ2, s12, S2, q2⟩
  obtain ⟨i1, i2, i3⟩ := it F2 H2 s12 S2.s i
  by_cases hlt : i < ds.length
  · refine .inr ⟨i1 hlt, fun σ3 H3 => ∃ F3 ρ3, Same F1 F3 ∧ Sim K c.cls c.B own σ3 H3 F3 ρ3 ∧ SPost K c ol own F3 D (forL f body (ds.drop (i + 1)) ρ3), fun σ3 H3 z => ⟨ds.length - (i + 1), by omega, rfl, hlt, z⟩, fun x H3 y => ?_⟩
    obtain ⟨F3, e3, r3⟩ := i3 x H3 ds[i] (List.getElem?_eq_getElem hlt) y
    rw [List.drop_eq_getElem_cons hlt] at q2
    unfold forL at q2
    refine hg x ds[i] σ2 H3 F3 ρ2 _ (S2.ext e3) r3 ?_
    cases ho : f ds[i] ρ2 with
    | ok ρ3 =>
      rw [ho, O.go_ok] at q2
      intro σ4 S4
      refine hb _ σ4 H3 F3 ρ3 S4 ?_
      cases hbo : body ρ3 with
      | nx ρ5 =>
        rw [hbo] at q2
        exact fun σ5 H5 F5 s5 S5 => ⟨F5, ρ5, s12.trans (e3.f.trans s5), S5, SPost.mono q2 (e3.f.trans s5)⟩
      | ct ρ5 =>
        rw [hbo] at q2
        exact fun σ5 H5 F5 s5 S5 => ⟨F5, ρ5, s12.trans (e3.f.trans s5), S5, SPost.mono q2 (e3.f.trans s5)⟩
      | bk ρ5 =>
        rw [hbo] at q2
        exact fun σ5 H5 F5 s5 S5 => q2 σ5 H5 F5 (e3.f.trans s5) S5
      | rt d => rw [hbo] at q2; exact q2
      | ex n => rw [hbo] at q2; exact q2
      | bad => rw [hbo] at q2; exact q2
    | ex k => exact absurd ho (hx _ _ k)
    | bad => rw [ho] at q2; exact q2.elim
  · have : i = ds.length := by omega
    subst this
    refine .inl ⟨i2 rfl, ?_⟩
    rw [List.drop_length] at q2
    exact q2 σ2 H2 F2 (Same.refl _) S2
/-! ### while -/
def whileN (t : Rho → O Bool) (body : Rho → R) : Nat → Rho → R
  | 0, _ => .bad
  | n + 1, ρ => (t ρ).go fun k => if k = true then (match body ρ with
    | .nx ρ2 => whileN t body n ρ2
    | .ct ρ2 => whileN t body n ρ2
    | .bk ρ2 => .nx ρ2
    | .rt e => .rt e
    | .ex n => .ex n
    | .bad => .bad) else .nx ρ
def gWhile (n : Nat) (t : Rho → O Bool) (body : Rho → R) : Rho → R := fun ρ => whileN t body n ρ
theorem fs_while {n : Nat} {tt : TT} {tb : TS} {t : Rho → O Bool} {body : Rho → R} (ht : FT K c own tt t) (hb : FS K c own own own tb body) : FS K c ol own own (tWhile tt tb) (gWhile n t body) := fun D σ H F ρ S q => by
  refine ⟨fun m σ2 H2 => ∃ F2 ρ2, Sim K c.cls c.B own σ2 H2 F2 ρ2 ∧ SPost K c ol own F2 D (whileN t body m ρ2), ⟨n, F, ρ, S, q⟩, ?_⟩
  rintro m σ2 H2 ⟨F2, ρ2, S2, q2⟩
  cases m with
  | zero => exact q2.elim
  | succ m =>
    unfold whileN at q2
    refine ht σ2 H2 F2 ρ2 _ S2 (SPost.go q2 (fun k q2 H3 F3 e => ?_) fun n q H1 s => q σ2 H1 (S2.b.h.trans s))
    cases k with
    | true =>
      rw [if_pos rfl] at q2 ⊢
      refine ⟨fun σ4 H4 => ∃ F4 ρ4, Sim K c.cls c.B own σ4 H4 F4 ρ4 ∧ SPost K c ol own F4 D (whileN t body m ρ4), fun σ4 H4 z => ⟨m, Nat.lt_succ_self _, z⟩, ?_⟩
      refine hb _ σ2 H3 F3 ρ2 (S2.ext e) ?_
      cases hbo : body ρ2 with
      | nx ρ5 =>
        rw [hbo] at q2
        exact fun σ5 H5 F5 s5 S5 => ⟨F5, ρ5, S5, SPost.mono q2 (e.f.trans s5)⟩
      | ct ρ5 =>
        rw [hbo] at q2
        exact fun σ5 H5 F5 s5 S5 => ⟨F5, ρ5, S5, SPost.mono q2 (e.f.trans s5)⟩
      | bk ρ5 =>
        rw [hbo] at q2
        exact fun σ5 H5 F5 s5 S5 => q2 σ5 H5 F5 (e.f.trans s5) S5
      | rt d => rw [hbo] at q2; exact q2
      | ex n => rw [hbo] at q2; exact q2
      | bad => rw [hbo] at q2; exact q2
    | false =>
      rw [if_neg Bool.false_ne_true] at q2 ⊢
      exact q2 σ2 H3 F3 e.f (S2.ext e)
end
end Fn

set_option Elab.async false
set_option linter.all false
set_option maxRecDepth 100000
/-! Comprehensions, calls of own defs, bodies of defs. -/
namespace Fn
open PySem PySem.Spec L2

section
variable {K : PySem.W.Frag} {c : Ct} {ol own own' : List Nat} {b : Bool} {F H F' H' : Hp} {σ : L2.St} {ρ : Rho}
/-! ### comprehensions -/
def wipeR (ρ : Rho) : List Nat → Rho
  | [] => ρ
  | v :: vs => (wipeR ρ vs).set v none
theorem Sim.wipe (S : Sim K c.cls c.B own σ H F ρ) : ∀ vs : List Nat, Sim K c.cls c.B own (L2.wipe σ vs) H F (wipeR ρ vs)
  | [] => S
  | v :: vs => (Sim.wipe S vs).forget v none
theorem wipe_set {u : Option V} : ∀ {vs : List Nat} {i : Nat} (σ : L2.St), i ∈ vs → L2.wipe (σ.set i u) vs = L2.wipe σ vs
  | [], _, _, h => absurd h List.not_mem_nil
  | v :: vs, i, σ, h => by
    unfold L2.wipe
    by_cases e : i = v
    · subst e
      by_cases m : i ∈ vs
      · rw [wipe_set σ m]
      · have q : ∀ (ws : List Nat) (τ : L2.St), i ∉ ws → L2.wipe (τ.set i u) ws = (L2.wipe τ ws).set i u := fun ws => by
          induction ws with
          | nil => intro τ _; rfl
          | cons x xs ih =>
            intro τ hx
            unfold L2.wipe
            rw [ih τ (fun z => hx (List.mem_cons_of_mem _ z))]
            exact List.set_comm _ _ (fun z => hx (by rw [z]; exact List.mem_cons_self))
        rw [q vs σ m, List.set_set]
    · rcases List.mem_cons.mp h with z | z
      · exact absurd z e
      · rw [wipe_set σ z]
theorem wipe_wipe (σ : L2.St) (vs : List Nat) : L2.wipe (L2.wipe σ vs) vs = L2.wipe σ vs := by
  have key : ∀ (ws : List Nat) (τ : L2.St), (∀ w ∈ ws, w ∈ vs) → L2.wipe (L2.wipe τ ws) vs = L2.wipe τ vs := fun ws => by
    induction ws with
    | nil => intro τ _; rfl
    | cons x xs ih =>
      intro τ hx
      have e : L2.wipe τ (x :: xs) = (L2.wipe τ xs).set x none := rfl
      rw [e, wipe_set _ (hx x List.mem_cons_self), ih τ fun w hw => hx w (List.mem_cons_of_mem _ hw)]
  exact key vs σ fun w hw => hw
def FC (K : PySem.W.Frag) (c : Ct) (own vs : List Nat) (g : TG) (f : PyData → Rho → O Rho) : Prop := ∀ v d σ H F ρ Q, Sim K c.cls c.B own σ H F ρ → Rep K c.cls F v d → OPost (fun ρ' => ∀ σ', L2.wipe σ' vs = L2.wipe σ vs → Sim K c.cls c.B own σ' H F ρ' → Q σ' H) (fun _ => False) (f d ρ) → g v σ H Q
def FCs (K : PySem.W.Frag) (c : Ct) (own vs : List Nat) (g : TGs) (f : List PyData → Rho → O Rho) : Prop := ∀ us ds σ H F ρ Q, Sim K c.cls c.B own σ H F ρ → RepL K c.cls F us ds → OPost (fun ρ' => ∀ σ', L2.wipe σ' vs = L2.wipe σ vs → Sim K c.cls c.B own σ' H F ρ' → Q σ' H) (fun _ => False) (f ds ρ) → g us σ H Q
theorem fc_name {i : Nat} {vs : List Nat} (hi : own.contains i = false) (hv : vs.contains i = true) : FC K c own vs (gName i) (aName i) := fun v d σ H F ρ Q S r q => by
  have S2 := S.set i r
  rw [notIn_of hi] at S2
  exact q _ (wipe_set σ (List.contains_iff_mem.mp hv)) S2
theorem fcs_nil {vs : List Nat} : FCs K c own vs gNil aNil := fun us ds σ H F ρ Q S r q => by
  unfold aNil at q
  split at q
  · cases r
    exact ⟨rfl, q _ rfl S⟩
  · exact q.elim
theorem fcs_cons {vs : List Nat} {g : TG} {gs : TGs} {f : PyData → Rho → O Rho} {fs : List PyData → Rho → O Rho} (h : FC K c own vs g f) (hs : FCs K c own vs gs fs) : FCs K c own vs (gCons g gs) (aCons f fs) := fun us ds σ H F ρ Q S r q => by
  unfold aCons at q
  split at q
  · rename_i d ds
    cases r with
    | cons r t =>
      refine ⟨_, _, rfl, h _ _ σ H F ρ _ S r (OPost.imp (fun ρ' q σ' w S' => ?_) (fun _ q => q) (OPost.bind q))⟩
      exact hs _ _ σ' H F ρ' Q S' t (OPost.imp (fun ρ' q σ2 w2 S2 => q σ2 (w2.trans w) S2) (fun _ q => q) q)
  · exact q.elim
theorem fc_tup {vs : List Nat} {n : Nat} {gs : TGs} {fs : List PyData → Rho → O Rho} (h : FCs K c own vs gs fs) (hn : ∀ ds ρ, ds.length ≠ n → fs ds ρ = .bad) : FC K c own vs (L2.gTup K n gs) (aTup fs) := fun v d σ H F ρ Q S r q => by
  unfold aTup at q
  split at q
  · rename_i ds
    cases r with
    | tp h1 r =>
      refine ⟨_, _, rfl, Same.tup S.s h1, ?_, h _ _ σ H F ρ Q S r q⟩
      rw [r.length]
      by_cases e : ds.length = n
      · exact e
      · rw [hn ds ρ e] at q
        exact q.elim
  · exact q.elim
abbrev Ct.noW (c : Ct) : Ct := { c with W := fun _ _ _ _ => False }
def compL (f : PyData → Rho → O Rho) (t : Rho → O Bool) (e : Rho → O PyData) (ρ : Rho) : List PyData → O (List PyData)
  | [] => .ok []
  | d :: ds => (f d ρ).bind fun ρ1 => (noEx (t ρ1)).bind fun k => if k = true then (noEx (e ρ1)).bind fun y => (compL f t e ρ ds).bind fun ys => .ok (y :: ys) else compL f t e ρ ds
def gYes : Rho → O Bool := fun _ => .ok true
theorem ft_yes : FT K c own tYes gYes := fun σ H F ρ Q S q => q H F (Ext.refl S.s)
def gComp (vs : List Nat) (f : PyData → Rho → O Rho) (t : Rho → O Bool) (e : Rho → O PyData) (gi : Rho → O (List PyData)) : Rho → O PyData := fun ρ => (gi ρ).bind fun ds => if ds.length ≤ lim then (compL f t e (wipeR ρ vs) ds).bind fun ys => .ok (.list ys) else .bad
theorem Ext.updNew {p : Addr} {o : HO} (e : Ext F H F' H') (h : H p = none) (h' : F' p = none) : Ext F H F' (upd H' p o) :=
  ⟨e.f, fun b u q => by rw [upd_ne (ne_of_none q h)]; exact e.h b u q, fun b u q => by rw [upd_ne (ne_of_none q h')]; exact e.s b u q, e.n, e.t⟩
theorem O.bind_okI {α β : Type} {o : O α} {f : α → O β} {z : β} (h : o.bind f = .ok z) : ∃ a, o = .ok a ∧ f a = .ok z := by
  cases o with
  | ok a => exact ⟨a, rfl, h⟩
  | ex n => cases h
  | bad => cases h
theorem noEx_okI {α : Type} {o : O α} {z : α} (h : noEx o = .ok z) : o = .ok z := by
  cases o with
  | ok a => exact h
  | ex n => cases h
  | bad => cases h
theorem compL_ex {f : PyData → Rho → O Rho} {t : Rho → O Bool} {e : Rho → O PyData} (hx : ∀ d ρ k, f d ρ ≠ .ex k) : ∀ ds n, compL f t e ρ ds ≠ .ex n
  | [], n, h => by cases h
  | d :: ds, n, h => by
    unfold compL at h
    cases e1 : f d ρ with
    | ex k => exact hx d ρ k e1
    | bad => rw [e1] at h; cases h
    | ok ρ1 =>
      rw [e1, O.bind_ok] at h
      cases e2 : t ρ1 with
      | ex k => rw [e2] at h; cases h
      | bad => rw [e2] at h; cases h
      | ok k =>
        rw [e2] at h
        have h : (if k = true then (noEx (e ρ1)).bind fun y => (compL f t e ρ ds).bind fun ys => O.ok (y :: ys) else compL f t e ρ ds) = O.ex n := h
        cases k with
        | false =>
          rw [if_neg Bool.false_ne_true] at h
          exact compL_ex hx ds n h
        | true =>
          rw [if_pos rfl] at h
          cases e3 : e ρ1 with
          | ex k => rw [e3] at h; cases h
          | bad => rw [e3] at h; cases h
          | ok y =>
            rw [e3] at h
            have h : (compL f t e ρ ds).bind (fun ys => O.ok (y :: ys)) = O.ex n := h
            cases e4 : compL f t e ρ ds with
            | ex k => exact compL_ex hx ds k e4
            | bad => rw [e4] at h; cases h
            | ok ys => rw [e4] at h; cases h
theorem fo_comp {vs : List Nat} {wi : TI} {g : TG} {tt : TT} {te : TE} {gi : Rho → O (List PyData)} {f : PyData → Rho → O Rho} {t : Rho → O Bool} {e : Rho → O PyData} (hi : FI K c own wi gi) (hg : FC K c.noW own vs g f)
    (hx : ∀ d ρ k, f d ρ ≠ .ex k) (ht : FT K c.noW own tt t) (he : FE K c.noW own true te e) : FO K c own (tLc wi g tt te vs) (gComp vs f t e gi) := fun σ H F ρ Q S q => by
  refine hi σ H F ρ _ S (OPost.imp (fun ds q J H1 F1 e1 it => ?_) (fun _ q => q) (OPost.bind q))
  split at q
  · rename_i hlim
    intro A hA
    have S1 := S.ext e1
    cases hz : compL f t e (wipeR ρ vs) ds with
    | ex n => exact absurd hz (compL_ex hx ds n)
    | bad => rw [hz] at q; exact q.elim
    | ok zs =>
      rw [hz, O.bind_ok] at q
      obtain ⟨_, ez, q⟩ := q
      cases ez
      refine ⟨fun i m H2 => m = ds.length - i ∧ i ≤ ds.length ∧ ∃ F2 acc as ys, Ext F1 H1 F2 H2 ∧ H2 A = some (.lst acc) ∧ F2 A = none ∧ RepL K c.cls F2 acc as ∧ as.length ≤ i ∧ compL f t e (wipeR ρ vs) (ds.drop i) = .ok ys ∧ zs = as ++ ys,
        ⟨ds.length, by omega, Nat.zero_le _, F1, [], [], zs, Ext.newO e1.s hA, upd_same, e1.s.free hA, .nil, Nat.zero_le _, hz, rfl⟩, ?_⟩
      rintro i m H2 ⟨rfl, hle, F2, acc, as, ys, e2, hD, hF, hr, hl, hc, rfl⟩
      obtain ⟨i1, i2, i3⟩ := it F2 H2 e2.f e2.s i
      by_cases hlt : i < ds.length
      · refine .inr ⟨i1 hlt, fun H3 => ∃ F3 acc as' ys', Ext F1 H1 F3 H3 ∧ H3 A = some (.lst acc) ∧ F3 A = none ∧ RepL K c.cls F3 acc as' ∧ as'.length ≤ i + 1 ∧ compL f t e (wipeR ρ vs) (ds.drop (i + 1)) = .ok ys' ∧ as ++ ys = as' ++ ys',
          fun H3 z => ⟨ds.length - (i + 1), by omega, rfl, hlt, z⟩, fun x H3 y => ?_⟩
        obtain ⟨F3, e3, r3⟩ := i3 x H3 ds[i] (List.getElem?_eq_getElem hlt) y
        rw [List.drop_eq_getElem_cons hlt] at hc
        unfold compL at hc
        obtain ⟨ρ1, ho, hc⟩ := O.bind_okI hc
        obtain ⟨k, hk, hc⟩ := O.bind_okI hc
        have e13 := e2.trans e3
        refine hg x ds[i] (L2.wipe σ vs) H3 F3 (wipeR ρ vs) _ ((S1.ext e13).wipe vs) r3 ?_
        rw [ho]
        intro σ4 w4 S4
        refine ⟨w4.trans (wipe_wipe σ vs), ht σ4 H3 F3 ρ1 _ S4 ?_⟩
        rw [noEx_okI hk]
        intro H4 F4 e4
        have e14 := e13.trans e4
        have nF : ∀ {F5 H5}, Ext F2 H2 F5 H5 → F5 A = none := fun {F5 H5} ee => by
          cases qq : F5 A with
          | none => rfl
          | some o =>
            rcases ee.n A o qq with z | z
            · rw [hF] at z; cases z
            · rw [hD] at z; cases z
        cases k with
        | true =>
          rw [if_pos rfl] at hc ⊢
          obtain ⟨y, hy, hc⟩ := O.bind_okI hc
          obtain ⟨ys', hys, hc⟩ := O.bind_okI hc
          cases hc
          refine he σ4 H4 F4 ρ1 _ (S4.ext e4) ?_
          rw [noEx_okI hy]
          intro u H5 F5 e5 r5
          have e25 := (e3.trans e4).trans e5
          refine ⟨acc, e25.h _ _ hD, by rw [hr.length]; exact lt_lim (by omega), F5, _, as ++ [y], ys', (e2.trans e25).updNew hA (nF e25), upd_same, nF e25, (hr.mono e25.f).append (.cons r5 .nil), by rw [List.length_append, List.length_singleton]; omega, hys, by rw [List.append_assoc]; rfl⟩
        | false =>
          rw [if_neg Bool.false_ne_true] at hc ⊢
          have e24 := e3.trans e4
          exact ⟨F4, acc, as, ys, e2.trans e24, e24.h _ _ hD, nF e24, hr.mono e24.f, by omega, hc, rfl⟩
      · have : i = ds.length := by omega
        subst this
        rw [List.drop_length] at hc
        have hc : O.ok [] = O.ok ys := hc
        cases hc
        refine .inl ⟨i2 rfl, q A acc H2 F2 (e1.trans e2) hD hF (e1.h.free hA) ?_⟩
        rw [List.append_nil]
        exact hr
  · exact q.elim
theorem gComp_list {vs : List Nat} {f : PyData → Rho → O Rho} {t : Rho → O Bool} {e : Rho → O PyData} {gi : Rho → O (List PyData)} : ∀ ρ d, gComp vs f t e gi ρ = .ok d → ∃ ds, d = .list ds := fun ρ d h => by
  unfold gComp at h
  obtain ⟨ds, _, h⟩ := O.bind_okI h
  split at h
  · obtain ⟨ys, _, h⟩ := O.bind_okI h
    cases h
    exact ⟨ys, rfl⟩
  · cases h
theorem fe_comp {vs : List Nat} {wi : TI} {g : TG} {tt : TT} {te : TE} {gi : Rho → O (List PyData)} {f : PyData → Rho → O Rho} {t : Rho → O Bool} {e : Rho → O PyData} (hi : FI K c own wi gi) (hg : FC K c.noW own vs g f)
    (hx : ∀ d ρ k, f d ρ ≠ .ex k) (ht : FT K c.noW own tt t) (he : FE K c.noW own true te e) : FE K c own b (tLc wi g tt te vs) (gComp vs f t e gi) := (fo_comp hi hg hx ht he).fe gComp_list
theorem g2L_list {op : PyData → PyData → O (List PyData)} {ga gb : Rho → O PyData} : ∀ ρ d, g2L op ga gb ρ = .ok d → ∃ ds, d = .list ds := fun ρ d h => by
  unfold g2L at h
  obtain ⟨x, _, h⟩ := O.bind_okI h
  obtain ⟨y, _, h⟩ := O.bind_okI h
  obtain ⟨z, _, h⟩ := O.bind_okI h
  cases h
  exact ⟨z, rfl⟩
theorem gSlL_list {g : Rho → O PyData} {gl gh : Rho → O (Option Int)} : ∀ ρ d, gSlL g gl gh ρ = .ok d → ∃ ds, d = .list ds := fun ρ d h => by
  unfold gSlL at h
  obtain ⟨x, _, h⟩ := O.bind_okI h
  obtain ⟨y, _, h⟩ := O.bind_okI h
  obtain ⟨z, _, h⟩ := O.bind_okI h
  unfold dSlL at h
  split at h
  · cases h; exact ⟨_, rfl⟩
  · cases h
/-! ### own defs -/
def spF (K : PySem.W.Frag) (cls xc : Nat → Addr) (n : Nat) (f : List PyData → O PyData) : Sp := fun vs H Q E => ∃ F ds, Same F H ∧ RepL K cls F vs ds ∧ ds.length = n ∧
  OPost (fun d => ∀ v H' F', Ext F H F' H' → Rep K cls F' v d → Q v H') (fun k => ∀ H', Same H H' → E (.ref (xc k)) none H') (f ds)
def gFn (n : Nat) (f : List PyData → O PyData) (g : Rho → O (List PyData)) : Rho → O PyData := fun ρ => (g ρ).bind fun ds => if ds.length = n then f ds else .bad
theorem fe_call {n : Nat} {f : List PyData → O PyData} {t : TA} {g : Rho → O (List PyData)} {W : WX} (hW : c.W = W) (h : FA K c own true t g) : FE K c own b (tCallS (spF K c.cls c.xc n f) (WE W) t) (gFn n f g) := FE.any fun σ H F ρ Q S q => by
  subst hW
  refine h σ H F ρ _ S (OPost.imp (fun ds q vs H1 F1 e1 r1 => ?_) (fun _ q => q) (OPost.bind q))
  split at q
  · rename_i hn
    exact ⟨F1, ds, e1.s, r1, hn, OPost.imp (fun d q v H2 F2 e2 r2 => q v H2 F2 (e1.trans e2) r2) (fun k q H2 s => q H2 (e1.h.trans s)) q⟩
  · exact q.elim
def flatO : PyData → O PyData := fun d => if flatD d = true then .ok d else .bad
def gFnB (n : Nat) (f : List PyData → O PyData) (g : Rho → O (List PyData)) : Rho → O PyData := fun ρ => (g ρ).bind fun ds => if ds.length = n then (f ds).bind flatO else .bad
theorem Rep.flat {v : V} {d : PyData} {G : Hp} (r : Rep K c.cls F v d) (h : flatD d = true) : Rep K c.cls G v d := by
  cases r with
  | non => exact .non
  | bl k => exact .bl k
  | int i => exact .int i
  | str x => exact .str x
  | ls _ _ => cases h
  | ro _ _ => cases h
  | tp _ _ => cases h
  | ob _ _ => cases h
  | dc _ => cases h
  | ad _ => cases h
theorem paired_full (s : Same F H) : ∀ {vs : List V} {ds : List PyData}, Paired (Rep1 K c F H) vs ds → RepL K c.cls H vs ds
  | _, _, .nil => .nil
  | _, _, .cons r t => .cons (Rep1.full r s) (paired_full s t)
theorem fe_callS {n : Nat} {f : List PyData → O PyData} {t : TA} {g : Rho → O (List PyData)} {W : WX} (hW : c.W = W) (h : FA K c own false t g) : FE K c own b (tCallS (spF K c.cls c.xc n f) (WE W) t) (gFnB n f g) := FE.any fun σ H F ρ Q S q => by
  subst hW
  refine h σ H F ρ _ S (OPost.imp (fun ds q vs H1 F1 e1 r1 => ?_) (fun _ q => q) (OPost.bind q))
  split at q
  · rename_i hn
    refine ⟨H1, ds, Same.refl _, paired_full e1.s r1, hn, OPost.imp (fun d q v H2 F2 e2 r2 => ?_) (fun k q H2 s => q H2 (e1.h.trans s)) (OPost.bind q)⟩
    unfold flatO at q
    split at q
    · rename_i hf
      exact q v H2 F1 (e1.trans ⟨Same.refl _, e2.h, e1.s.trans e2.h, fun _ _ z => .inl z, fun _ _ z => z⟩) (r2.flat hf)
    · exact q.elim
  · exact q.elim
def outR : R → O PyData
  | .nx _ => .ok .none
  | .rt d => .ok d
  | .ex n => .ex n
  | .bk _ => .bad
  | .ct _ => .bad
  | .bad => .bad
def rho0 (m : Nat) (ds : List PyData) : Rho := ds.map some ++ List.replicate (m - ds.length) none
def fnG (m : Nat) (g : Rho → R) : List PyData → O PyData := fun ds => outR (g (rho0 m ds))
end
theorem sim_start {K : PySem.W.Frag} {cls : Nat → Addr} {F H : Hp} {N : List Str} {vs : List V} {ds : List PyData} (s : Same F H) (r : RepL K cls F vs ds) : Sim K cls (H, F, []) [] (L2.start N vs) H F (rho0 N.length ds) where
  b := Ext.refl s
  len := by
    unfold L2.start rho0
    rw [List.length_append, List.length_append, List.length_map, List.length_map, List.length_replicate, List.length_replicate, r.length]
  fro := fun i d _ h => by
    unfold rho0 at h
    by_cases hi : i < ds.length
    · rw [List.getElem?_append_left (by rw [List.length_map]; exact hi), List.getElem?_map] at h
      cases q : ds[i]? with
      | none => rw [q] at h; cases h
      | some d' =>
        rw [q] at h
        cases h
        obtain ⟨v, h1, h2⟩ := r.get q
        refine ⟨v, ?_, h2⟩
        unfold L2.start
        rw [List.getElem?_append_left (by rw [List.length_map, r.length]; exact hi), List.getElem?_map, h1]
        rfl
    · rw [List.getElem?_append_right (by rw [List.length_map]; omega)] at h
      rw [List.getElem?_replicate] at h
      split at h <;> cases h
  ow := fun i d hi => absurd hi List.not_mem_nil
  sep := fun i j d e a hi => absurd hi List.not_mem_nil
  tb := fun p hp => absurd hp List.not_mem_nil
  ft := fun p hp => absurd hp List.not_mem_nil
section
variable {P : Program} {w : World} {K : PySem.W.Frag} {mg : Str → Option Value} {base : Heap}
/-- a def by its body -/
theorem fn_ok {x qual : Str} {st : Stmt} {f : Addr} {fd : FuncData} {N ps : List Str} {k : Nat} {cls xc : Nat → Addr} (F : Fun K x qual st f fd) (S : FnScope N ps (defScope st)) (g : Rho → R) (own' : List Nat)
    (h : ∀ (cdv : Value) (A : Around) (outer : List Env) (s : Shared) (H : Hp) (E : XK) (F0 : Hp), Room k (A.deeper (PyProof.Rows.envOfC qual (defScope st) s.heap.objs.size f cdv)) →
      ∃ t, PSs (cxOf (L2.CX P w) P w K mg base N qual (defScope st) f cdv A outer s H E) (defBody st) t ∧ FS K ⟨cls, xc, fun cl d _ H' => E cl d H', (H, F0, []), false⟩ [] [] own' t g) :
    FnOk P w K mg base (L2.CX P w) (k + 1) f fd ps (spF K cls xc ps.length (fnG N.length g)) := by
  refine F.okX S (fun vs H Q E h => ?_) (fun cdv A outer s H vs Q E hr hsp => ?_)
  · obtain ⟨F0, ds, _, r, hn, _⟩ := h
    rw [r.length]; exact hn
  · obtain ⟨F0, ds, sF, r, hn, q⟩ := hsp
    obtain ⟨t, ht, hf⟩ := h cdv A outer s H E F0 hr
    refine ⟨t, ht, hf _ _ H F0 (rho0 N.length ds) (sim_start sF r) ?_⟩
    unfold fnG at q
    cases e : g (rho0 N.length ds) with
    | nx ρ' =>
      rw [e] at q
      exact fun σ' H' F' s' S' => q .non H' F' S'.b .non
    | rt d => rw [e] at q; exact fun v H' F' e _ r => q v H' F' e r
    | ex n => rw [e] at q; exact fun σ' H' s' => q H' s'
    | bk ρ' => rw [e] at q; exact q.elim
    | ct ρ' => rw [e] at q; exact q.elim
    | bad => rw [e] at q; exact q.elim
end
end Fn

set_option Elab.async false
set_option linter.all false
set_option maxRecDepth 100000
/-! What the top has written, by names. -/
namespace Fn
open PySem PySem.Spec L2

/-- a def of the top, by its name -/
def DefAt (K : PySem.W.Frag) (mg : Str → Option Value) (x : Str) (st : Stmt) (ps : List Str) : Prop := ∃ f fd, Fun K x x st f fd ∧ mg x = some (.ref f) ∧ Binds K fd ps []
/-- .. and what it does -/
def OkAt (P : Program) (w : World) (K : PySem.W.Frag) (mg : Str → Option Value) (base : Heap) (cls xc : Nat → Addr) (x : Str) (ps : List Str) (n k : Nat) (g : List PyData → O PyData) : Prop :=
  ∃ f fd, FnOk P w K mg base (L2.CX P w) k f fd ps (spF K cls xc n g) ∧ mg x = some (.ref f) ∧ PySem.W.keepIn K (.ref f) = true ∧ Binds K fd ps []
theorem okAt_of {P : Program} {w : World} {K : PySem.W.Frag} {mg : Str → Option Value} {base : Heap} {cls xc : Nat → Addr} {x : Str} {st : Stmt} {ps N : List Str} {k : Nat} (d : DefAt K mg x st ps) (S : FnScope N ps (defScope st)) (g : Rho → R) (own' : List Nat)
    (h : ∀ (f : Addr) (cdv : Value) (A : Around) (outer : List Env) (s : Shared) (H : Hp) (E : XK) (F0 : Hp), Room k (A.deeper (PyProof.Rows.envOfC x (defScope st) s.heap.objs.size f cdv)) →
      ∃ t, PSs (cxOf (L2.CX P w) P w K mg base N x (defScope st) f cdv A outer s H E) (defBody st) t ∧ FS K ⟨cls, xc, fun cl d _ H' => E cl d H', (H, F0, []), false⟩ [] [] own' t g) :
    OkAt P w K mg base cls xc x ps ps.length (k + 1) (fnG N.length g) := by
  obtain ⟨f, fd, F, m, b⟩ := d
  exact ⟨f, fd, fn_ok F S g own' (h f), m, F.kp, b⟩
section
variable {X : Cx} {cls xc : Nat → Addr} {x : Str} {ps : List Str} {n k j : Nat} {g : List PyData → O PyData} {W : WX} {p pos : Pos} {e : Expr} {es : List Expr} {t : TA}
theorem pe_callO (o : OkAt X.prog X.w X.K X.mg X.base cls xc x ps n k g) (hr : Room j X.A) (hk : k ≤ j) (hg : Gl X x) (tk : Takes X W) (ha : PA X (e :: es) t) (hdb : (x == ("__debug__" : Str)) = false := by decide)
    (he : starEach (e :: es) X.env = (false, eval e X.env) :: starEach es X.env := by rfl) (hpl : (backTo pos (starEach es X.env)).any (·.1) = false := by rfl) :
    PE X (.Call (.Name x p) (e :: es) [] pos) (tCallS (spF X.K cls xc n g) (WE W) t) := by
  obtain ⟨f, fd, F, m, kp, b⟩ := o
  exact pe_callS F (hr.mono hk) hg m kp b (fun σ => passAt tk σ) ha hdb he hpl
end
/-- an error class of the text's own -/
structure ExcAt (K : PySem.W.Frag) (mg : Str → Option Value) (x : Str) (C : Addr) : Prop where
  g : mg x = some (.ref C)
  k : PySem.W.keepIn K (.ref C) = true
  x : PySem.W.excIn K C [.type "ValueError", .type "Exception", .type "BaseException", .type "object"] "ValueError.__new__" = true
  b : PySem.W.subIn K (.ref C) (.type "BaseException") = some true
  t : PySem.W.typeIn K (.ref C) = some (.type "type")
theorem ps_raiseO {X : Cx} {W : WX} {x m : Str} {C : Addr} {j : Nat} {p p2 pos pos' : Pos} (hc : X.calm = true) (tk : Takes X W) (T : ExcAt X.K X.mg x C) (hg : Gl X x) (hdb : (x == ("__debug__" : Str)) = false := by decide) :
    PS X (.Raise (some (.Call (.Name x p) [.Constant (.str m) j p2] [] pos)) none pos') (fun _ σ H => W (.ref C) none σ H) :=
  ps_raise hc tk (pmk_own PySem.F.excBase_ValueError T.x T.g T.k (raises_own T.b T.t) hg hdb)
/-- a whole number of the top -/
def IntAt (mg : Str → Option Value) (x : Str) (i : Int) : Prop := ∃ t, mg x = some (.int i t)
theorem pe_globI {X : Cx} {x : Str} {i : Int} {pos : Pos} (hg : Gl X x) (h : IntAt X.mg x i) (hd : (x == ("__debug__" : Str)) = false := by decide) : PE X (.Name x pos) (tC (.int i)) := by
  obtain ⟨t, h⟩ := h
  exact pe_glob hg h ⟨t, rfl⟩ hd
theorem fe_int {K : PySem.W.Frag} {c : Ct} {own : List Nat} {b : Bool} (i : Int) : FE K c own b (tC (.int i)) (gC (.int i)) := fe_c fun _ => .int i
theorem fe_str {K : PySem.W.Frag} {c : Ct} {own : List Nat} {b : Bool} (i : Str) : FE K c own b (tC (.str i)) (gC (.str i)) := fe_c fun _ => .str i
theorem fe_bool {K : PySem.W.Frag} {c : Ct} {own : List Nat} {b : Bool} (i : Bool) : FE K c own b (tC (.bl i)) (gC (.bool i)) := fe_c fun _ => .bl i
theorem fe_none {K : PySem.W.Frag} {c : Ct} {own : List Nat} {b : Bool} : FE K c own b (tC .non) (gC .none) := fe_c fun _ => .non
/-! built-in names -/
theorem bt_len : bootBuiltins "len" = some (.builtin "len") := by decide +kernel
theorem bt_all : bootBuiltins "all" = some (.builtin "all") := by decide +kernel
theorem bt_any : bootBuiltins "any" = some (.builtin "any") := by decide +kernel
theorem bt_sum : bootBuiltins "sum" = some (.builtin "sum") := by decide +kernel
theorem bt_max : bootBuiltins "max" = some (.builtin "max") := by decide +kernel
theorem bt_min : bootBuiltins "min" = some (.builtin "min") := by decide +kernel
theorem bt_abs : bootBuiltins "abs" = some (.builtin "abs") := by decide +kernel
theorem bt_isinstance : bootBuiltins "isinstance" = some (.builtin "isinstance") := by decide +kernel
theorem bt_int : bootBuiltins "int" = some (.type "int") := by decide +kernel
theorem bt_str : bootBuiltins "str" = some (.type "str") := by decide +kernel
theorem bt_tuple : bootBuiltins "tuple" = some (.type "tuple") := by decide +kernel
theorem bt_list : bootBuiltins "list" = some (.type "list") := by decide +kernel
theorem bt_bool : bootBuiltins "bool" = some (.type "bool") := by decide +kernel
/-! operators in short -/
abbrev gAdd := g2 fun d e => noEx (dAdd d e)
abbrev gSub' := g2 fun d e => noEx (dSub d e)
abbrev gMul := g2 fun d e => noEx (dMul d e)
abbrev gFdiv := g2 fun d e => noEx (dFdiv d e)
abbrev gMod := g2 fun d e => noEx (dMod d e)
abbrev gPow := g2 fun d e => noEx (dPow d e)
abbrev gLt := g2 fun d e => noEx (dLt d e)
abbrev gLe := g2 fun d e => noEx (dLe d e)
abbrev gGt := g2 fun d e => noEx (dGt d e)
abbrev gGe := g2 fun d e => noEx (dGe d e)
abbrev gEq := g2 fun d e => noEx (dEq d e)
abbrev gNe := g2 fun d e => noEx (dNe d e)
abbrev gIn := g2 fun d e => noEx (dIn false d e)
abbrev gNotIn := g2 fun d e => noEx (dIn true d e)
abbrev gIsN := g2 fun d e => noEx (dIsN d e)
abbrev gNotN := g2 fun d e => noEx (dNotN d e)
abbrev gIx := g2 fun d e => noEx (dIx d e)
abbrev gNeg := g1 fun d => noEx (dNeg d)
abbrev gB (f : List PyData → O PyData) := gCall fun ds => noEx (f ds)
end Fn

set_option Elab.async false
set_option linter.all false
set_option maxRecDepth 100000
/-! The class Problem: three lists of its own, made of what is_problem takes. -/
namespace Fn
open PySem PySem.Spec L2

def pf (p1 p2 p3 : Addr) : List (Str × V) := putF "gain" (.ref p3) (putF "rows" (.ref p2) (putF "tops" (.ref p1) []))
theorem pf_eq (p1 p2 p3 : Addr) : pf p1 p2 p3 = ([("tops", V.ref p1), ("rows", V.ref p2), ("gain", V.ref p3)] : List (Str × V)) := by
  have h1 : ¬ (("tops" : Str) = "rows") := by decide +kernel
  have h2 : ¬ (("tops" : Str) = "gain") := by decide +kernel
  have h3 : ¬ (("rows" : Str) = "gain") := by decide +kernel
  unfold pf
  have e1 : putF "tops" (.ref p1) [] = ([("tops", V.ref p1)] : List (Str × V)) := rfl
  rw [e1]
  have e2 : putF "rows" (.ref p2) [(("tops" : Str), V.ref p1)] = ([("tops", V.ref p1), ("rows", V.ref p2)] : List (Str × V)) := by
    show (if ("tops" : Str) = "rows" then [(("rows" : Str), V.ref p2)] else (("tops" : Str), V.ref p1) :: putF "rows" (.ref p2) []) = _
    rw [if_neg h1]
    rfl
  rw [e2]
  show (if ("tops" : Str) = "gain" then (("gain" : Str), V.ref p3) :: [(("rows" : Str), V.ref p2)] else (("tops" : Str), V.ref p1) :: (if ("rows" : Str) = "gain" then [(("gain" : Str), V.ref p3)] else (("rows" : Str), V.ref p2) :: putF "gain" (.ref p3) [])) = _
  rw [if_neg h2, if_neg h3]
  rfl
/-- a problem's data -/
abbrev D.prob (ts rs gs : List PyData) : PyData := D.ob 0 [(.str "tops", .list ts), (.str "rows", .list rs), (.str "gain", .list gs)]
def spI (K : PySem.W.Frag) (cls xc : Nat → Addr) (fp : List PyData → O PyData) : Sp := fun vs H Q E => ∃ x dx v1 v2 v3 d1 d2 d3, vs = [.ref x, v1, v2, v3] ∧ H x = some (.ins (cls 0) dx []) ∧ RepL K cls H [v1, v2, v3] [d1, d2, d3] ∧
  OPost (fun d => ∃ k, d = .bool k ∧ if k = true then
      ∃ a1 a2 a3 xs1 xs2 xs3, v1 = .ref a1 ∧ v2 = .ref a2 ∧ v3 = .ref a3 ∧ H a1 = some (.lst xs1) ∧ H a2 = some (.lst xs2) ∧ H a3 = some (.lst xs3) ∧
        ∀ H' p1 p2 p3, (∀ b o, b ≠ x → H b = some o → H' b = some o) → H p1 = none → H p2 = none → H p3 = none → H' p1 = some (.lst xs1) → H' p2 = some (.lst xs2) → H' p3 = some (.lst xs3) → H' x = some (.ins (cls 0) dx (pf p1 p2 p3)) → Q .non H'
    else ∀ H', Same H H' → E (.ref (xc 1)) none H') (fun _ => False) (fp [d1, d2, d3])
/-- the reading of __init__ -/
def tInit (K : PySem.W.Frag) (cls xc : Nat → Addr) (fp : List PyData → O PyData) (W : WX) : TS :=
  tSeq (tIfS (tNot fun σ H Q => tCallS (spF K cls xc 3 fp) (WE W) (tCons (tVar 1) (tCons (tVar 2) (tCons (tVar 3) tNil))) σ H fun x H' => ∃ k, TruV K x H' k ∧ Q k H') (fun _ σ H => W (.ref (xc 1)) none σ H) tNext)
    (tSeq (sFld K (tVar 0) (tCB (rListOf K) (tCons (tVar 1) tNil)) "tops")
    (tSeq (sFld K (tVar 0) (tCB (rListOf K) (tCons (tVar 2) tNil)) "rows")
      (sFld K (tVar 0) (tCB (rListOf K) (tCons (tVar 3) tNil)) "gain")))
section
variable {P : Program} {w : World} {K : PySem.W.Frag} {mg : Str → Option Value} {base : Heap} {cls xc : Nat → Addr} {fp : List PyData → O PyData}
theorem init_pure (cl : Cls K (cls 0)) (n1 : NoAttr K (cls 0) "tops") (n2 : NoAttr K (cls 0) "rows") (n3 : NoAttr K (cls 0) "gain") {vs : List V} {H : Hp} {Q : VK} {E : XK} (h : spI K cls xc fp vs H Q E) :
    tInit K cls xc fp (fun c d _ H => E c d H) { nx := fun _ H' => Q .non H', rt := Q } (L2.start ["self", "tops", "rows", "gain"] vs) H := by
  obtain ⟨x, dx, v1, v2, v3, d1, d2, d3, rfl, hx, r, q⟩ := h
  refine ⟨v1, rfl, v2, rfl, v3, rfl, H, [d1, d2, d3], Same.refl _, r, rfl, ?_⟩
  cases e : fp [d1, d2, d3] with
  | ex n => rw [e] at q; exact q.elim
  | bad => rw [e] at q; exact q.elim
  | ok d =>
    rw [e] at q
    obtain ⟨k, rfl, q⟩ := q
    intro v H1 F1 e1 r1
    cases r1
    refine ⟨k, rfl, ?_⟩
    cases k with
    | false => exact q H1 e1.h
    | true =>
      obtain ⟨a1, a2, a3, xs1, xs2, xs3, rfl, rfl, rfl, h1, h2, h3, q⟩ := q
      have s1 : Same H H1 := e1.h
      -- self.tops = list(tops)
      refine ⟨_, rfl, a1, xs1, rfl, .inl (SqL.of (s1 _ _ h1)), fun p1 np1 => ?_⟩
      have s2 : Same H1 (upd H1 p1 (.lst xs1)) := same_upd np1
      refine ⟨_, rfl, x, cls 0, dx, [], rfl, s2 _ _ (s1 _ _ hx), cl, n1, (by show 0 < 1000; decide), ?_⟩
      generalize hH2 : upd (upd H1 p1 (.lst xs1)) x (.ins (cls 0) dx (putF "tops" (.ref p1) [])) = H2
      have x1 : x ≠ p1 := ne_of_none (s1 _ _ hx) np1
      have k2 : ∀ b o, b ≠ x → H b = some o → H2 b = some o := fun b o hb z => by rw [← hH2, upd_ne hb]; exact s2 _ _ (s1 _ _ z)
      have hx2 : H2 x = some (.ins (cls 0) dx (putF "tops" (.ref p1) [])) := by rw [← hH2]; exact upd_same
      have hp1 : H2 p1 = some (.lst xs1) := by rw [← hH2, upd_ne x1.symm]; exact upd_same
      have f2 : ∀ {p}, H2 p = none → H p = none := fun {p} z => by
        cases q0 : H p with
        | none => rfl
        | some o =>
          by_cases px : p = x
          · subst px; rw [hx2] at z; cases z
          · rw [k2 p o px q0] at z; cases z
      have ax : ∀ {a xs}, H a = some (.lst xs) → a ≠ x := fun {a xs} z e => by subst e; rw [hx] at z; cases z
      -- self.rows = list(rows)
      refine ⟨_, rfl, a2, xs2, rfl, .inl (SqL.of (k2 _ _ (ax h2) h2)), fun p2 np2 => ?_⟩
      have x2 : x ≠ p2 := ne_of_none hx2 np2
      refine ⟨_, rfl, x, cls 0, dx, _, rfl, (by rw [upd_ne x2]; exact hx2), cl, n2, (by show 1 < 1000; decide), ?_⟩
      generalize hH3 : upd (upd H2 p2 (.lst xs2)) x (.ins (cls 0) dx (putF "rows" (.ref p2) (putF "tops" (.ref p1) []))) = H3
      have k3 : ∀ b o, b ≠ x → H2 b = some o → H3 b = some o := fun b o hb z => by rw [← hH3, upd_ne hb]; exact same_upd np2 _ _ z
      have hx3 : H3 x = some (.ins (cls 0) dx (putF "rows" (.ref p2) (putF "tops" (.ref p1) []))) := by rw [← hH3]; exact upd_same
      have hp2 : H3 p2 = some (.lst xs2) := by rw [← hH3, upd_ne x2.symm]; exact upd_same
      have f3 : ∀ {p}, H3 p = none → H2 p = none := fun {p} z => by
        cases q0 : H2 p with
        | none => rfl
        | some o =>
          by_cases px : p = x
          · subst px; rw [hx3] at z; cases z
          · rw [k3 p o px q0] at z; cases z
      -- self.gain = list(gain)
      refine ⟨_, rfl, a3, xs3, rfl, .inl (SqL.of (k3 _ _ (ax h3) (k2 _ _ (ax h3) h3))), fun p3 np3 => ?_⟩
      have x3 : x ≠ p3 := ne_of_none hx3 np3
      refine ⟨_, rfl, x, cls 0, dx, _, rfl, (by rw [upd_ne x3]; exact hx3), cl, n3, ?_, ?_⟩
      · have e2 : (putF "rows" (.ref p2) (putF "tops" (.ref p1) []) : List (Str × V)).length ≤ 2 := by
          have h1 : ¬ (("tops" : Str) = "rows") := by decide +kernel
          show (if ("tops" : Str) = "rows" then [(("rows" : Str), V.ref p2)] else (("tops" : Str), V.ref p1) :: putF "rows" (.ref p2) []).length ≤ 2
          rw [if_neg h1]
          exact Nat.le_refl _
        omega
      · refine q _ p1 p2 p3 (fun b o hb z => ?_) (s1.free np1) (f2 np2) (f2 (f3 np3)) ?_ ?_ ?_ upd_same
        · rw [upd_ne hb]
          exact same_upd np3 _ _ (k3 _ _ hb (k2 _ _ hb z))
        · rw [upd_ne x1.symm]
          exact same_upd np3 _ _ (k3 _ _ x1.symm hp1)
        · rw [upd_ne x2.symm]
          exact same_upd np3 _ _ hp2
        · rw [upd_ne x3.symm]
          exact upd_same
theorem init_ok {st : Stmt} {f : Addr} {fd : FuncData} {k : Nat} (F : Fun K "__init__" "Problem.__init__" st f fd) (S : FnScope ["self", "tops", "rows", "gain"] ["self", "tops", "rows", "gain"] (defScope st))
    (cl : Cls K (cls 0)) (n1 : NoAttr K (cls 0) "tops") (n2 : NoAttr K (cls 0) "rows") (n3 : NoAttr K (cls 0) "gain")
    (h : ∀ (cdv : Value) (A : Around) (outer : List Env) (s : Shared) (H : Hp) (E : XK), Room k (A.deeper (PyProof.Rows.envOfC "Problem.__init__" (defScope st) s.heap.objs.size f cdv)) →
      PSs (cxOf (L2.CX P w) P w K mg base ["self", "tops", "rows", "gain"] "Problem.__init__" (defScope st) f cdv A outer s H E) (defBody st) (tInit K cls xc fp fun c d _ H => E c d H)) :
    FnOk P w K mg base (L2.CX P w) (k + 1) f fd ["self", "tops", "rows", "gain"] (spI K cls xc fp) := by
  refine F.okX S (fun vs H Q E h => ?_) (fun cdv A outer s H vs Q E hr hsp => ⟨_, h cdv A outer s H E hr, init_pure cl n1 n2 n3 hsp⟩)
  obtain ⟨x, dx, v1, v2, v3, d1, d2, d3, rfl, _⟩ := h
  rfl
end
/-- the class, as callers need it -/
def MkAt (P : Program) (w : World) (K : PySem.W.Frag) (mg : Str → Option Value) (base : Heap) (cls xc : Nat → Addr) (k : Nat) (fp : List PyData → O PyData) : Prop :=
  ∃ f fd, FnOk P w K mg base (L2.CX P w) k f fd ["self", "tops", "rows", "gain"] (spI K cls xc fp) ∧ Mk K (cls 0) f ∧ mg "Problem" = some (.ref (cls 0)) ∧ Binds K fd ["self", "tops", "rows", "gain"] []
theorem pe_makeO {X : Cx} {cls xc : Nat → Addr} {k j : Nat} {fp : List PyData → O PyData} {E : XK} {p pos : Pos} {e : Expr} {es : List Expr} {t : TA} (o : MkAt X.prog X.w X.K X.mg X.base cls xc k fp) (hr : Room j X.A) (hk : k + 1 ≤ j) (hg : Gl X "Problem")
    (hx : Passes (L2.CX X.prog X.w) X E) (ha : PA X (e :: es) t) (he : starEach (e :: es) X.env = (false, eval e X.env) :: starEach es X.env := by rfl) (hpl : (backTo pos (starEach es X.env)).any (·.1) = false := by rfl) :
    PE X (.Call (.Name "Problem" p) (e :: es) [] pos) (tMake (cls 0) (spI X.K cls xc fp) [] E t) := by
  obtain ⟨f, fd, F, M, m, b⟩ := o
  exact pe_make M F (hr.mono hk) hg m b .nil hx ha (by decide) he hpl
theorem passW {X : Cx} {W : WX} {E : XK} (tk : Takes X W) (hE : W = fun c d _ H => E c d H) : Passes (L2.CX X.prog X.w) X E := passes_call tk fun c d σ H h => by rw [hE]; exact h
section
variable {K : PySem.W.Frag} {c : Ct} {own : List Nat} {b : Bool} {F H F' H' : Hp} {σ : L2.St} {ρ : Rho}
/-- what is_problem takes -/
def IsP (fp : List PyData → O PyData) : Prop := ∀ ds, fp ds = .ok (.bool true) → ∃ ts rs gs, ds = [.list ts, .list rs, .list gs]
def makeP (fp : List PyData → O PyData) (ds : List PyData) : O PyData := (noEx (fp ds)).bind fun d => match d with
  | .bool true => (match ds with
    | [.list ts, .list rs, .list gs] => .ok (D.prob ts rs gs)
    | _ => .bad)
  | .bool false => .ex 1
  | _ => .bad
def gMake (fp : List PyData → O PyData) (g : Rho → O (List PyData)) : Rho → O PyData := fun ρ => (g ρ).bind fun ds => if ds.length = 3 then makeP fp ds else .bad
/-- what stands in H' for good, if it is among what is kept -/
theorem upd_in {F' H' : Hp} {p a : Addr} {o u : HO} (hp : H' p = some o) (h : H' a = some u) (hf : a = p ∨ F' a = some u) : upd F' p o a = some u := by
  by_cases e : a = p
  · subst e
    rw [upd_same]
    rw [hp] at h
    exact h
  · rw [upd_ne e]
    exact hf.resolve_left e
theorem made_ext {H1 F1 H2 : Hp} {x dx p1 p2 p3 : Addr} {ts rs gs : List PyData} {xs1 xs2 xs3 : List V} (s : Same F1 H1) (nx : H1 x = none) (nd : H1 dx = none) (ne : dx ≠ x)
    (k : ∀ b o, b ≠ x → (upd (upd H1 dx (.own x)) x (.ins (c.cls 0) dx [])) b = some o → H2 b = some o)
    (n1 : (upd (upd H1 dx (.own x)) x (.ins (c.cls 0) dx [])) p1 = none) (n2 : (upd (upd H1 dx (.own x)) x (.ins (c.cls 0) dx [])) p2 = none) (n3 : (upd (upd H1 dx (.own x)) x (.ins (c.cls 0) dx [])) p3 = none)
    (q1 : H2 p1 = some (.lst xs1)) (q2 : H2 p2 = some (.lst xs2)) (q3 : H2 p3 = some (.lst xs3)) (qx : H2 x = some (.ins (c.cls 0) dx (pf p1 p2 p3)))
    (r1 : RepL K c.cls F1 xs1 ts) (r2 : RepL K c.cls F1 xs2 rs) (r3 : RepL K c.cls F1 xs3 gs) : ∃ F2, Ext F1 H1 F2 H2 ∧ Rep K c.cls F2 (.ref x) (D.prob ts rs gs) := by
  have hs : Same H1 H2 := fun b o z => by
    have b1 : b ≠ x := ne_of_none z nx
    have b2 : b ≠ dx := ne_of_none z nd
    exact k b o b1 (by rw [upd_ne b1, upd_ne b2]; exact z)
  have free : ∀ {p}, (upd (upd H1 dx (.own x)) x (.ins (c.cls 0) dx [])) p = none → H1 p = none := fun {p} z => by
    cases q : H1 p with
    | none => rfl
    | some o =>
      have b1 : p ≠ x := ne_of_none q nx
      have b2 : p ≠ dx := ne_of_none q nd
      rw [upd_ne b1, upd_ne b2, q] at z
      cases z
  have e0 : Ext F1 H1 F1 H2 := ⟨Same.refl _, hs, s.trans hs, fun _ _ z => .inl z, fun _ _ z => z⟩
  have e1 := e0.keep (free n1) q1
  have e2 := e1.keep (free n2) q2
  have e3 := e2.keep (free n3) q3
  have e4 := e3.keep nx qx
  refine ⟨_, e4, .ob upd_same ?_⟩
  rw [pf_eq]
  have w1 : upd (upd (upd (upd F1 p1 (.lst xs1)) p2 (.lst xs2)) p3 (.lst xs3)) x (.ins (c.cls 0) dx (pf p1 p2 p3)) p1 = some (.lst xs1) :=
    upd_in qx q1 (.inr (upd_in q3 q1 (.inr (upd_in q2 q1 (.inr upd_same)))))
  have w2 : upd (upd (upd (upd F1 p1 (.lst xs1)) p2 (.lst xs2)) p3 (.lst xs3)) x (.ins (c.cls 0) dx (pf p1 p2 p3)) p2 = some (.lst xs2) :=
    upd_in qx q2 (.inr (upd_in q3 q2 (.inr upd_same)))
  have w3 : upd (upd (upd (upd F1 p1 (.lst xs1)) p2 (.lst xs2)) p3 (.lst xs3)) x (.ins (c.cls 0) dx (pf p1 p2 p3)) p3 = some (.lst xs3) :=
    upd_in qx q3 (.inr upd_same)
  exact .cons (.ls w1 (r1.mono e4.f)) (.cons (.ls w2 (r2.mono e4.f)) (.cons (.ls w3 (r3.mono e4.f)) .nil))
theorem paired3 {α β : Type} {G : α → β → Prop} {xs : List α} {y z u : β} (h : Paired G xs [y, z, u]) : ∃ x x' x'', xs = [x, x', x''] ∧ G x y ∧ G x' z ∧ G x'' u := by
  cases h with
  | cons r t =>
    obtain ⟨x', x'', rfl, r', r''⟩ := paired2 t
    exact ⟨_, _, _, rfl, r, r', r''⟩
theorem fe_make {fp : List PyData → O PyData} {t : TA} {g : Rho → O (List PyData)} {E : XK} (hW : c.W = fun cl d _ H => E cl d H) (h : FA K c own false t g) : FE K c own b (tMake (c.cls 0) (spI K c.cls c.xc fp) [] E t) (gMake fp g) := FE.any fun σ H F ρ Q S q => by
  refine h σ H F ρ _ S (OPost.imp (fun ds q vs H1 F1 e1 r1 => ?_) (fun _ q => q) (OPost.bind q))
  split at q
  · rename_i hn
    obtain ⟨d1, d2, d3, rfl⟩ : ∃ a b c, ds = [a, b, c] := by
      match ds, hn with
      | [a, b, c], _ => exact ⟨a, b, c, rfl⟩
    obtain ⟨v1, v2, v3, rfl, y1, y2, y3⟩ := paired3 (show Paired (Rep1 K c F1 H1) vs [d1, d2, d3] from r1)
    intro x dx nx nd ne
    have sm : Same H1 (upd (upd H1 dx (.own x)) x (.ins (c.cls 0) dx [])) := fun b o z => by
      rw [upd_ne (ne_of_none z nx), upd_ne (ne_of_none z nd)]
      exact z
    refine ⟨x, dx, v1, v2, v3, d1, d2, d3, rfl, upd_same, ?_, ?_⟩
    · exact (RepL.cons (y1.full e1.s) (.cons (y2.full e1.s) (.cons (y3.full e1.s) .nil))).mono sm
    · unfold makeP at q
      cases e : fp [d1, d2, d3] with
      | ex n =>
        rw [e] at q
        exact (show False from q)
      | bad => rw [e] at q; exact (show False from q)
      | ok d =>
        rw [e] at q
        have q : OPost _ _ (match d with
          | .bool true => (match [d1, d2, d3] with
            | [.list ts, .list rs, .list gs] => O.ok (D.prob ts rs gs)
            | _ => .bad)
          | .bool false => .ex 1
          | _ => .bad) := q
        split at q
        · split at q
          · rename_i ts rs gs eq
            cases eq
            obtain ⟨a1, xs1, rfl, h1, z1⟩ := y1.lst e1.s
            obtain ⟨a2, xs2, rfl, h2, z2⟩ := y2.lst e1.s
            obtain ⟨a3, xs3, rfl, h3, z3⟩ := y3.lst e1.s
            refine ⟨true, rfl, ?_⟩
            rw [if_pos rfl]
            refine ⟨a1, a2, a3, xs1, xs2, xs3, rfl, rfl, rfl, sm _ _ h1, sm _ _ h2, sm _ _ h3, fun H2 p1 p2 p3 k n1 n2 n3 q1 q2 q3 qx => ⟨rfl, ?_⟩⟩
            obtain ⟨F2, e2, r2⟩ := made_ext (c := c) e1.s nx nd ne k n1 n2 n3 q1 q2 q3 qx z1 z2 z3
            exact q _ _ _ (e1.trans e2) r2
          · exact q.elim
        · refine ⟨false, rfl, ?_⟩
          rw [if_neg Bool.false_ne_true]
          intro H2 s2
          have := q H2 (e1.h.trans (sm.trans s2))
          rw [hW] at this
          exact this
        · exact q.elim
  · exact q.elim
end
end Fn

set_option Elab.async false
set_option linter.all false
set_option maxRecDepth 100000
/-! What comes of the words at a state: equations for simp; loops. -/
namespace Fn
open PySem PySem.Spec L2

/-! the line of lengths is kept shut -/
theorem lim_ge {n : Nat} (h : n ≤ 1000) : n ≤ lim := by unfold lim; omega
theorem lim_gt {n : Nat} (h : n < 1000) : n < lim := by unfold lim; omega
theorem limI_ge {n : Int} (h : n ≤ 1000) : n ≤ (lim : Int) := by unfold lim; omega
theorem limI_neg {n : Int} (h : -1000 ≤ n) : -(lim : Int) ≤ n := by unfold lim; omega
@[simp] theorem lim_ge0 : 0 ≤ lim := lim_ge (by decide)
@[simp] theorem lim_ge1 : 1 ≤ lim := lim_ge (by decide)
@[simp] theorem lim_ge2 : 2 ≤ lim := lim_ge (by decide)
@[simp] theorem lim_ge3 : 3 ≤ lim := lim_ge (by decide)
@[simp] theorem lim_ge4 : 4 ≤ lim := lim_ge (by decide)
@[simp] theorem lim_ge5 : 5 ≤ lim := lim_ge (by decide)
@[simp] theorem lim_ge6 : 6 ≤ lim := lim_ge (by decide)
theorem rng1_nat {m : Nat} (h : m ≤ 1000) : rng1 [.int m] = .ok (rangeD 0 m) := by
  show (if -(lim : Int) ≤ (m : Int) ∧ (m : Int) ≤ lim then O.ok (rangeD 0 (m : Int).toNat) else .bad) = _
  rw [if_pos ⟨limI_neg (by omega), limI_ge (by omega)⟩, Int.toNat_natCast]
section
variable (ρ : Rho) (d e : PyData) (ds es : List PyData) (g h u w : Rho → O PyData) (ga gb : Rho → O PyData) (gs : Rho → O (List PyData)) (t t' : Rho → O Bool) (r s : Rho → R) (i j k : Int) (n m : Nat)
@[simp] theorem bind_ok {α β : Type} (a : α) (f : α → O β) : O.bind (.ok a) f = f a := rfl
@[simp] theorem bind_ex {α β : Type} (n : Nat) (f : α → O β) : O.bind (.ex n) f = .ex n := rfl
@[simp] theorem bind_bad {α β : Type} (f : α → O β) : O.bind .bad f = .bad := rfl
@[simp] theorem go_ok {α : Type} (a : α) (f : α → R) : (O.ok a).go f = f a := rfl
@[simp] theorem go_ex {α : Type} (n : Nat) (f : α → R) : (O.ex n : O α).go f = .ex n := rfl
@[simp] theorem go_bad {α : Type} (f : α → R) : (O.bad : O α).go f = .bad := rfl
@[simp] theorem seq_nx (f : Rho → R) : (R.nx ρ).seq f = f ρ := rfl
@[simp] theorem seq_rt (f : Rho → R) : (R.rt d).seq f = .rt d := rfl
@[simp] theorem seq_ex (f : Rho → R) : (R.ex n).seq f = .ex n := rfl
@[simp] theorem seq_bad (f : Rho → R) : R.bad.seq f = .bad := rfl
@[simp] theorem seq_bk (f : Rho → R) : (R.bk ρ).seq f = .bk ρ := rfl
@[simp] theorem seq_ct (f : Rho → R) : (R.ct ρ).seq f = .ct ρ := rfl
@[simp] theorem noEx_ok {α : Type} (a : α) : noEx (.ok a) = .ok a := rfl
@[simp] theorem noEx_ex {α : Type} (n : Nat) : noEx (.ex n : O α) = .bad := rfl
@[simp] theorem noEx_bad {α : Type} : noEx (.bad : O α) = .bad := rfl
@[simp] theorem gC_ap : gC d ρ = .ok d := rfl
@[simp] theorem g2_ap (op : PyData → PyData → O PyData) : g2 op ga gb ρ = (ga ρ).bind fun d => (gb ρ).bind fun e => op d e := rfl
@[simp] theorem g1_ap (op : PyData → O PyData) : g1 op ga ρ = (ga ρ).bind op := rfl
@[simp] theorem gNilA_ap : gNilA ρ = .ok [] := rfl
@[simp] theorem gConsA_ap : gConsA g gs ρ = (g ρ).bind fun d => (gs ρ).bind fun ds => .ok (d :: ds) := rfl
@[simp] theorem gCall_ap (f : List PyData → O PyData) : gCall f gs ρ = (gs ρ).bind f := rfl
@[simp] theorem gTup_ap : Fn.gTup gs ρ = (gs ρ).bind fun ds => if ds.length ≤ lim then .ok (.tuple ds) else .bad := rfl
@[simp] theorem gLst_ap : gLst gs ρ = (gs ρ).bind fun ds => if ds.length ≤ lim then .ok (.list ds) else .bad := rfl
@[simp] theorem gBl_ap : gBl g ρ = (g ρ).bind fun d => match d with
  | .bool k => .ok k
  | _ => .bad := rfl
@[simp] theorem gTru_ap : gTru g ρ = (g ρ).bind truD := rfl
@[simp] theorem gNotT_ap : gNotT t ρ = (t ρ).bind fun k => .ok (!k) := rfl
@[simp] theorem gAndT_ap : gAndT t t' ρ = (t ρ).bind fun k => if k = true then t' ρ else .ok false := rfl
@[simp] theorem gOrT_ap : gOrT t t' ρ = (t ρ).bind fun k => if k = true then .ok true else t' ρ := rfl
@[simp] theorem gAndV_ap : gAndV g h ρ = (gBl g ρ).bind fun k => if k = true then h ρ else .ok (.bool false) := rfl
@[simp] theorem gOrV_ap : gOrV g h ρ = (gBl g ρ).bind fun k => if k = true then .ok (.bool true) else h ρ := rfl
@[simp] theorem gNotV_ap : gNotV g ρ = (gBl g ρ).bind fun k => .ok (.bool (!k)) := rfl
@[simp] theorem gIf_ap : gIf t g h ρ = (t ρ).bind fun k => if k = true then g ρ else h ρ := rfl
@[simp] theorem g2L_ap (op : PyData → PyData → O (List PyData)) : g2L op ga gb ρ = (ga ρ).bind fun d => (gb ρ).bind fun e => (op d e).bind fun ds => .ok (.list ds) := rfl
@[simp] theorem gNoP_ap : gNoP ρ = .ok none := rfl
@[simp] theorem gPart_ap : gPart g ρ = (g ρ).bind fun d => match d with
  | .int i => .ok (some i)
  | _ => .bad := rfl
@[simp] theorem gSl_ap (gl gh : Rho → O (Option Int)) : gSl g gl gh ρ = (g ρ).bind fun d => (gl ρ).bind fun lo => (gh ρ).bind fun hi => dSl d lo hi := rfl
@[simp] theorem gSlL_ap (gl gh : Rho → O (Option Int)) : gSlL g gl gh ρ = (g ρ).bind fun d => (gl ρ).bind fun lo => (gh ρ).bind fun hi => dSlL d lo hi := rfl
@[simp] theorem gListOf_ap : gListOf gs ρ = (gs ρ).bind fun ds => (bListL ds).bind fun es => .ok (.list es) := rfl
@[simp] theorem gIsi_ap (T : String) : gIsi T g ρ = (g ρ).bind (bIsi T) := rfl
@[simp] theorem gChain_ap (op op' : PyData → PyData → O PyData) : gChain op op' g h u ρ = (g ρ).bind fun d => (h ρ).bind fun e => (noEx (op d e)).bind fun z => match z with
  | .bool k => if k = true then (u ρ).bind fun f => noEx (op' e f) else .ok (.bool false)
  | _ => .bad := rfl
@[simp] theorem gFn_ap (f : List PyData → O PyData) : gFn n f gs ρ = (gs ρ).bind fun ds => if ds.length = n then f ds else .bad := rfl
@[simp] theorem gFnB_ap (f : List PyData → O PyData) : gFnB n f gs ρ = (gs ρ).bind fun ds => if ds.length = n then (f ds).bind flatO else .bad := rfl
@[simp] theorem gMake_ap (f : List PyData → O PyData) : gMake f gs ρ = (gs ρ).bind fun ds => if ds.length = 3 then makeP f ds else .bad := rfl
@[simp] theorem gNext_ap : gNext ρ = .nx ρ := rfl
@[simp] theorem gSeq_ap : gSeq r s ρ = (r ρ).seq s := rfl
@[simp] theorem gIfS_ap : gIfS t r s ρ = (t ρ).go fun k => if k = true then r ρ else s ρ := rfl
@[simp] theorem gSet_ap : gSet n g ρ = (g ρ).go fun d => .nx (ρ.set n (some d)) := rfl
@[simp] theorem gAsg_ap (f : PyData → Rho → O Rho) : gAsg f g ρ = (g ρ).go fun d => (f d ρ).go .nx := rfl
@[simp] theorem aName_ap : aName n d ρ = .ok (ρ.set n (some d)) := rfl
@[simp] theorem aTup_ap (f : List PyData → Rho → O Rho) : aTup f (.tuple ds) ρ = f ds ρ := rfl
@[simp] theorem aNil_ap : aNil [] ρ = .ok ρ := rfl
@[simp] theorem aCons_ap (f : PyData → Rho → O Rho) (fs : List PyData → Rho → O Rho) : aCons f fs (d :: ds) ρ = (f d ρ).bind fun ρ' => fs ds ρ' := rfl
@[simp] theorem gDrop_ap : gDrop g ρ = (g ρ).go fun _ => .nx ρ := rfl
@[simp] theorem gRet_ap : gRet g ρ = (g ρ).go .rt := rfl
@[simp] theorem gRetN_ap : gRetN ρ = .rt .none := rfl
@[simp] theorem gRaise_ap : gRaise n ρ = .ex n := rfl
@[simp] theorem gBreak_ap : gBreak ρ = .bk ρ := rfl
@[simp] theorem gCont_ap : gCont ρ = .ct ρ := rfl
@[simp] theorem gAppend_ap : gAppend n g ρ = (lsAt n ρ).go fun _ => (g ρ).go fun d => (lsAt n ρ).go fun ds => if ds.length < lim then .nx (ρ.set n (some (.list (ds ++ [d])))) else .bad := rfl
@[simp] theorem gExtend_ap : gExtend n g ρ = (lsAt n ρ).go fun _ => (g ρ).go fun d => match d with
  | .list es => (lsAt n ρ).go fun ds => if ds.length + es.length ≤ lim then .nx (ρ.set n (some (.list (ds ++ es)))) else .bad
  | _ => .bad := rfl
@[simp] theorem gClear_ap : gClear n ρ = (lsAt n ρ).go fun _ => .nx (ρ.set n (some (.list []))) := rfl
@[simp] theorem gPopSet_ap : gPopSet m n ρ = (lsAt n ρ).go fun ds => match ds[ds.length - 1]? with
  | some d => .nx ((ρ.set n (some (.list ds.dropLast))).set m (some d))
  | none => .bad := rfl
@[simp] theorem gSetIx_ap : gSetIx n h g ρ = (g ρ).go fun d => (lsAt n ρ).go fun _ => (h ρ).go fun k => match k with
  | .int k => (lsAt n ρ).go fun ds => match ixN ds.length k with
    | some j => .nx (ρ.set n (some (.list (ds.set j d))))
    | none => .bad
  | _ => .bad := rfl
theorem gFor_ap (f : PyData → Rho → O Rho) : gFor f gs r ρ = (gs ρ).go fun ds => forL f r ds ρ := rfl
@[simp] theorem gItA_ap : gItA g ρ = (g ρ).bind itemsA := rfl
@[simp] theorem gRng1_ap : gRng1 gs ρ = (gs ρ).bind rng1 := rfl
@[simp] theorem gRng2_ap : gRng2 gs ρ = (gs ρ).bind rng2 := rfl
@[simp] theorem gEnum_ap : gEnum gs ρ = (gs ρ).bind enumI := rfl
@[simp] theorem gZip_ap : gZip gs ρ = (gs ρ).bind zipI := rfl
@[simp] theorem gYes_ap : gYes ρ = .ok true := rfl
@[simp] theorem gFld_ap (f : Str) : gFld f n g ρ = (g ρ).bind fun d => match d with
  | .dict ((.bool true, .int j) :: gs) => if j = (n : Int) then (match fieldD f gs with
    | some e => .ok e
    | none => .bad) else .bad
  | _ => .bad := rfl
theorem gComp_ap (vs : List Nat) (f : PyData → Rho → O Rho) (gi : Rho → O (List PyData)) : gComp vs f t g gi ρ = (gi ρ).bind fun ds => if ds.length ≤ lim then (compL f t g (wipeR ρ vs) ds).bind fun ys => .ok (.list ys) else .bad := rfl
@[simp] theorem wipeR_nil : wipeR ρ [] = ρ := rfl
@[simp] theorem wipeR_cons (v : Nat) (vs : List Nat) : wipeR ρ (v :: vs) = (wipeR ρ vs).set v none := rfl
/-! slots -/
@[simp] theorem gVar_0 : gVar 0 (some d :: ρ) = .ok d := rfl
@[simp] theorem gVar_s (x : Option PyData) : gVar (n + 1) (x :: ρ) = gVar n ρ := rfl
@[simp] theorem lsAt_0 : lsAt 0 (some (.list ds) :: ρ) = .ok ds := rfl
@[simp] theorem lsAt_s (x : Option PyData) : lsAt (n + 1) (x :: ρ) = lsAt n ρ := rfl
/-! operators -/
@[simp] theorem dAdd_int : dAdd (.int i) (.int j) = .ok (.int (i + j)) := rfl
@[simp] theorem dSub_int : dSub (.int i) (.int j) = .ok (.int (i - j)) := rfl
@[simp] theorem dMul_int : dMul (.int i) (.int j) = if mulOk i j = true then .ok (.int (i * j)) else .bad := rfl
@[simp] theorem dMod_int : dMod (.int i) (.int j) = if 0 < j then .ok (.int (i % j)) else .bad := rfl
@[simp] theorem dFdiv_int : dFdiv (.int i) (.int j) = if 0 < j ∧ j.natAbs.log2 < 9000 then .ok (.int (i / j)) else .bad := rfl
@[simp] theorem dNeg_int : dNeg (.int i) = .ok (.int (-i)) := rfl
@[simp] theorem dLt_int : dLt (.int i) (.int j) = .ok (.bool (decide (i < j))) := rfl
@[simp] theorem dLe_int : dLe (.int i) (.int j) = .ok (.bool (decide (i ≤ j))) := rfl
@[simp] theorem dGt_int : dGt (.int i) (.int j) = .ok (.bool (decide (j < i))) := rfl
@[simp] theorem dGe_int : dGe (.int i) (.int j) = .ok (.bool (decide (j ≤ i))) := rfl
@[simp] theorem dEq_int : dEq (.int i) (.int j) = .ok (.bool (decide (i = j))) := by
  have : PyData.eqv (.int i) (.int j) = decide (i = j) := by
    show (i == j) = decide (i = j)
    rfl
  show (if (true || _) = true then O.ok (PyData.bool (PyData.eqv (.int i) (.int j))) else .bad) = _
  rw [this]
  rfl
@[simp] theorem dNe_int : dNe (.int i) (.int j) = .ok (.bool (!decide (i = j))) := by
  have : PyData.eqv (.int i) (.int j) = decide (i = j) := by
    show (i == j) = decide (i = j)
    rfl
  show (if (true || _) = true then O.ok (PyData.bool (!PyData.eqv (.int i) (.int j))) else .bad) = _
  rw [this]
  rfl
@[simp] theorem dCat_l : dCat (.list ds) (.list es) = if ds.length + es.length ≤ lim then .ok (ds ++ es) else .bad := rfl
@[simp] theorem dAdd_l : dAdd (.list ds) (.list es) = if ds.length + es.length ≤ lim then .ok (.list (ds ++ es)) else .bad := rfl
@[simp] theorem dRep_l : dRep (.list ds) (.int k) = repL ds k := rfl
@[simp] theorem dMul_l : dMul (.list ds) (.int k) = (repL ds k).bind fun ys => .ok (.list ys) := rfl
@[simp] theorem dSl_l (lo hi : Option Int) : dSl (.list ds) lo hi = .ok (.list (cutL ds lo hi)) := rfl
@[simp] theorem dSlL_l (lo hi : Option Int) : dSlL (.list ds) lo hi = .ok (.list (cutL ds lo hi)) := rfl
@[simp] theorem bLen_l : bLen [.list ds] = .ok (.int ds.length) := rfl
@[simp] theorem bLen_t : bLen [.tuple ds] = .ok (.int ds.length) := rfl
@[simp] theorem bLen_r : bLen [D.ro ds] = .ok (.int ds.length) := rfl
@[simp] theorem bListL_l : bListL [.list ds] = .ok ds := rfl
@[simp] theorem bListL_t : bListL [.tuple ds] = .ok ds := rfl
@[simp] theorem bTup_l : bTup [.list ds] = .ok (.tuple ds) := rfl
@[simp] theorem bTup_t : bTup [.tuple ds] = .ok (.tuple ds) := rfl
@[simp] theorem bMin_2 : bMin [.int i, .int j] = .ok (.int (if j < i then j else i)) := rfl
@[simp] theorem bMax_2 : bMax [.int i, .int j] = .ok (.int (if j > i then j else i)) := rfl
@[simp] theorem bInt_b (b : Bool) : bInt [.bool b] = .ok (.int (if b = true then 1 else 0)) := rfl
@[simp] theorem bInt_i : bInt [.int i] = .ok (.int i) := rfl
@[simp] theorem itemsA_l : itemsA (.list ds) = .ok ds := rfl
@[simp] theorem itemsA_t : itemsA (.tuple ds) = .ok ds := rfl
theorem rng1_i : rng1 [.int j] = if -(lim : Int) ≤ j ∧ j ≤ lim then .ok (rangeD 0 j.toNat) else .bad := rfl
@[simp] theorem enumI_l : enumI [.list ds] = .ok (enumD ds) := rfl
@[simp] theorem zipI_l : zipI [.list ds, .list es] = .ok (zipD ds es) := rfl
@[simp] theorem truD_b (b : Bool) : truD (.bool b) = .ok b := rfl
@[simp] theorem truD_n : truD .none = .ok false := rfl
@[simp] theorem outR_rt : outR (.rt d) = .ok d := rfl
@[simp] theorem outR_nx : outR (.nx ρ) = .ok .none := rfl
@[simp] theorem outR_ex : outR (.ex n) = .ex n := rfl
@[simp] theorem outR_bad : outR .bad = .bad := rfl
@[simp] theorem flatO_i : flatO (.int i) = .ok (.int i) := rfl
@[simp] theorem flatO_b (b : Bool) : flatO (.bool b) = .ok (.bool b) := rfl
@[simp] theorem flatO_n : flatO .none = .ok .none := rfl
theorem dIx_l {v : PyData} (h : atI ds i = some v) : dIx (.list ds) (.int i) = .ok v := by
  show (match atI ds i with
    | some d => O.ok d
    | none => .bad) = _
  rw [h]
theorem dIx_t {v : PyData} (h : atI ds i = some v) : dIx (.tuple ds) (.int i) = .ok v := by
  show (match atI ds i with
    | some d => O.ok d
    | none => .bad) = _
  rw [h]
theorem dIx_r {v : PyData} (h : atI ds i = some v) : dIx (D.ro ds) (.int i) = .ok v := by
  show (match atI ds i with
    | some d => O.ok d
    | none => .bad) = _
  rw [h]
end
/-- a product within the line: one side is small -/
theorem mulOk_l {i j : Int} (h : -(2 ^ 64) < i ∧ i < 2 ^ 64) : mulOk i j = true := by
  unfold mulOk
  rw [decide_eq_true h]
  simp
theorem mulOk_r {i j : Int} (h : -(2 ^ 64) < j ∧ j < 2 ^ 64) : mulOk i j = true := by
  unfold mulOk
  rw [decide_eq_true h]
  simp
theorem atI_of {α : Type} {xs : List α} {i : Int} (h0 : 0 ≤ i) (h : i < xs.length) : atI xs i = some (xs[i.toNat]'(by omega)) := by
  unfold atI ixN
  rw [if_pos h0, if_pos h]
  exact List.getElem?_eq_getElem _
theorem atI_neg {α : Type} {xs : List α} {i : Int} (h0 : i < 0) (h : -(xs.length : Int) ≤ i) : atI xs i = some (xs[(i + xs.length).toNat]'(by omega)) := by
  unfold atI ixN
  rw [if_neg (by omega), if_pos h]
  exact List.getElem?_eq_getElem _
theorem ixN_of {n : Nat} {i : Int} (h0 : 0 ≤ i) (h : i < n) : ixN n i = some i.toNat := by
  unfold ixN
  rw [if_pos h0, if_pos h]
/-! ### loops -/
theorem forL_inv {f : PyData → Rho → O Rho} {body : Rho → R} (I : Nat → Rho → Prop) : ∀ (ds : List PyData) (k : Nat) (ρ : Rho), I k ρ → (∀ i d ρ, ds[i]? = some d → I (k + i) ρ → ∃ ρ1 ρ2, f d ρ = .ok ρ1 ∧ body ρ1 = .nx ρ2 ∧ I (k + i + 1) ρ2) → ∃ ρ', forL f body ds ρ = .nx ρ' ∧ I (k + ds.length) ρ'
  | [], k, ρ, h, _ => ⟨ρ, rfl, h⟩
  | d :: ds, k, ρ, h, hs => by
    obtain ⟨ρ1, ρ2, h1, h2, h3⟩ := hs 0 d ρ rfl h
    obtain ⟨ρ', h4, h5⟩ := forL_inv I ds (k + 1) ρ2 h3 fun i e τ he hi => by
      have e1 : k + 1 + i = k + (i + 1) := by omega
      rw [e1] at hi ⊢
      exact hs (i + 1) e τ he hi
    refine ⟨ρ', ?_, by rw [List.length_cons]; have e1 : k + (ds.length + 1) = k + 1 + ds.length := by omega
                       rw [e1]; exact h5⟩
    unfold forL
    rw [h1, O.go_ok, h2]
    exact h4
theorem for_inv {f : PyData → Rho → O Rho} {body : Rho → R} {ds : List PyData} {ρ : Rho} (I : Nat → Rho → Prop) (h0 : I 0 ρ) (hs : ∀ i d ρ, ds[i]? = some d → I i ρ → ∃ ρ1 ρ2, f d ρ = .ok ρ1 ∧ body ρ1 = .nx ρ2 ∧ I (i + 1) ρ2) :
    ∃ ρ', forL f body ds ρ = .nx ρ' ∧ I ds.length ρ' := by
  have := forL_inv I ds 0 ρ h0 (fun i d ρ hd hi => by rw [Nat.zero_add] at hi ⊢; exact hs i d ρ hd hi)
  rw [Nat.zero_add] at this
  exact this
/-- a loop that may leave by a return -/
theorem forL_leave {f : PyData → Rho → O Rho} {body : Rho → R} (I : Nat → Rho → Prop) (P : R → Prop) : ∀ (ds : List PyData) (k : Nat) (ρ : Rho), I k ρ →
    (∀ i d ρ, ds[i]? = some d → I (k + i) ρ → ∃ ρ1, f d ρ = .ok ρ1 ∧ ((∃ ρ2, (body ρ1 = .nx ρ2 ∨ body ρ1 = .ct ρ2) ∧ I (k + i + 1) ρ2) ∨ (∃ v, body ρ1 = .rt v ∧ P (.rt v)) ∨ (∃ ρ2, body ρ1 = .bk ρ2 ∧ P (.nx ρ2)))) → (∀ ρ, I (k + ds.length) ρ → P (.nx ρ)) → P (forL f body ds ρ)
  | [], k, ρ, h, _, hp => hp ρ h
  | d :: ds, k, ρ, h, hs, hp => by
    have rest : ∀ ρ2, I (k + 1) ρ2 → P (forL f body ds ρ2) := fun ρ2 h3 => by
      refine forL_leave I P ds (k + 1) ρ2 h3 (fun i e τ he hi => ?_) fun τ ht => hp τ ?_
      · have e1 : k + 1 + i = k + (i + 1) := by omega
        rw [e1] at hi ⊢
        exact hs (i + 1) e τ he hi
      · rw [List.length_cons]
        have e1 : k + (ds.length + 1) = k + 1 + ds.length := by omega
        rw [e1]; exact ht
    obtain ⟨ρ1, h1, h2⟩ := hs 0 d ρ rfl h
    unfold forL
    rw [h1, O.go_ok]
    rcases h2 with ⟨ρ2, h2 | h2, h3⟩ | ⟨v, h2, h3⟩ | ⟨ρ2, h2, h3⟩
    · rw [h2]; exact rest ρ2 h3
    · rw [h2]; exact rest ρ2 h3
    · rw [h2]; exact h3
    · rw [h2]; exact h3
theorem for_leave {f : PyData → Rho → O Rho} {body : Rho → R} {ds : List PyData} {ρ : Rho} (I : Nat → Rho → Prop) (P : R → Prop) (h0 : I 0 ρ)
    (hs : ∀ i d ρ, ds[i]? = some d → I i ρ → ∃ ρ1, f d ρ = .ok ρ1 ∧ ((∃ ρ2, (body ρ1 = .nx ρ2 ∨ body ρ1 = .ct ρ2) ∧ I (i + 1) ρ2) ∨ (∃ v, body ρ1 = .rt v ∧ P (.rt v)) ∨ (∃ ρ2, body ρ1 = .bk ρ2 ∧ P (.nx ρ2)))) (hp : ∀ ρ, I ds.length ρ → P (.nx ρ)) : P (forL f body ds ρ) :=
  forL_leave I P ds 0 ρ h0 (fun i d ρ hd hi => by rw [Nat.zero_add] at hi ⊢; exact hs i d ρ hd hi) (fun ρ h => hp ρ (by rw [Nat.zero_add] at h; exact h))
/-! ### comprehensions -/
theorem compL_map {f : PyData → Rho → O Rho} {t : Rho → O Bool} {e : Rho → O PyData} {ρ : Rho} (y : PyData → PyData) : ∀ (ds : List PyData), (∀ d ∈ ds, ∃ ρ1, f d ρ = .ok ρ1 ∧ t ρ1 = .ok true ∧ e ρ1 = .ok (y d)) → compL f t e ρ ds = .ok (ds.map y)
  | [], _ => rfl
  | d :: ds, h => by
    obtain ⟨ρ1, h1, h2, h3⟩ := h d List.mem_cons_self
    unfold compL
    rw [h1, O.bind_ok, h2]
    show (noEx (e ρ1)).bind _ = _
    rw [h3]
    show (compL f t e ρ ds).bind _ = _
    rw [compL_map y ds fun d hd => h d (List.mem_cons_of_mem _ hd)]
    rfl
theorem compL_filter {f : PyData → Rho → O Rho} {t : Rho → O Bool} {e : Rho → O PyData} {ρ : Rho} (p : PyData → Bool) (y : PyData → PyData) : ∀ (ds : List PyData), (∀ d ∈ ds, ∃ ρ1, f d ρ = .ok ρ1 ∧ t ρ1 = .ok (p d) ∧ (p d = true → e ρ1 = .ok (y d))) → compL f t e ρ ds = .ok ((ds.filter p).map y)
  | [], _ => rfl
  | d :: ds, h => by
    obtain ⟨ρ1, h1, h2, h3⟩ := h d List.mem_cons_self
    have ih := compL_filter p y ds fun d hd => h d (List.mem_cons_of_mem _ hd)
    unfold compL
    rw [h1, O.bind_ok, h2]
    show (if p d = true then (noEx (e ρ1)).bind _ else compL f t e ρ ds) = _
    cases hp : p d with
    | true =>
      rw [if_pos rfl, h3 hp, List.filter_cons_of_pos hp]
      show (compL f t e ρ ds).bind _ = _
      rw [ih]
      rfl
    | false =>
      rw [if_neg Bool.false_ne_true, List.filter_cons_of_neg (by rw [hp]; exact Bool.false_ne_true)]
      exact ih
theorem compL_ex_of {f : PyData → Rho → O Rho} {t : Rho → O Bool} {e : Rho → O PyData} {ρ : Rho} (P : PyData → Prop) : ∀ (ds : List PyData), (∀ d ∈ ds, ∃ ρ1 y, f d ρ = .ok ρ1 ∧ t ρ1 = .ok true ∧ e ρ1 = .ok y ∧ P y) → ∃ ys, compL f t e ρ ds = .ok ys ∧ ys.length = ds.length ∧ ∀ y ∈ ys, P y
  | [], _ => ⟨[], rfl, rfl, fun y hy => by cases hy⟩
  | d :: ds, h => by
    obtain ⟨ρ1, y, h1, h2, h3, h4⟩ := h d List.mem_cons_self
    obtain ⟨ys, k1, k2, k3⟩ := compL_ex_of P ds fun d hd => h d (List.mem_cons_of_mem _ hd)
    refine ⟨y :: ys, ?_, by rw [List.length_cons, List.length_cons, k2], fun z hz => ?_⟩
    · unfold compL
      rw [h1, O.bind_ok, h2]
      show (noEx (e ρ1)).bind _ = _
      rw [h3]
      show (compL f t e ρ ds).bind _ = _
      rw [k1]
      rfl
    · rcases List.mem_cons.mp hz with rfl | hz
      · exact h4
      · exact k3 z hz
theorem rangeD_mem {lo : Int} {n : Nat} {d : PyData} (h : d ∈ rangeD lo n) : ∃ i : Nat, i < n ∧ d = .int (lo + i) := by
  unfold rangeD at h
  obtain ⟨i, hi, rfl⟩ := List.mem_map.mp h
  exact ⟨i, List.mem_range.mp hi, rfl⟩
/-- all of them whole numbers with a property -/
theorem ints_of {P : Int → Prop} : ∀ {ys : List PyData}, (∀ y ∈ ys, ∃ k, y = .int k ∧ P k) → ∃ ks : List Int, ys = ks.map PyData.int ∧ ks.length = ys.length ∧ ∀ k ∈ ks, P k
  | [], _ => ⟨[], rfl, rfl, fun k h => by cases h⟩
  | y :: ys, h => by
    obtain ⟨k, rfl, hk⟩ := h y List.mem_cons_self
    obtain ⟨ks, rfl, h2, h3⟩ := ints_of fun z hz => h z (List.mem_cons_of_mem _ hz)
    refine ⟨k :: ks, rfl, by simp, fun z hz => ?_⟩
    rcases List.mem_cons.mp hz with rfl | hz
    · exact hk
    · exact h3 z hz
end Fn
namespace Fn
open PySem PySem.Spec L2
theorem atI_getD {α : Type} {xs : List α} {i : Int} (d : α) (h0 : 0 ≤ i) (h : i < xs.length) : atI xs i = some (xs.getD i.toNat d) := by
  rw [atI_of h0 h, List.getD_eq_getElem?_getD, List.getElem?_eq_getElem (by omega)]
  rfl
theorem atI_map {α β : Type} (f : α → β) (xs : List α) (i : Int) : atI (xs.map f) i = (atI xs i).map f := by
  unfold atI
  rw [List.length_map]
  cases ixN xs.length i with
  | none => rfl
  | some j => exact List.getElem?_map
end Fn
namespace Fn
open PySem PySem.Spec L2
theorem comp_ints {vs : List Nat} {i : Nat} {E : Rho → O PyData} {gi : Rho → O (List PyData)} {ρ : Rho} {ds : List PyData} (P : Int → Prop) (hg : gi ρ = .ok ds) (hn : ds.length ≤ lim)
    (h : ∀ d ∈ ds, ∃ k, E ((wipeR ρ vs).set i (some d)) = .ok (.int k) ∧ P k) : ∃ ks : List Int, gComp vs (aName i) gYes E gi ρ = .ok (.list (ks.map PyData.int)) ∧ ks.length = ds.length ∧ ∀ k ∈ ks, P k := by
  obtain ⟨ys, h1, h2, h3⟩ := compL_ex_of (f := aName i) (t := gYes) (e := E) (ρ := wipeR ρ vs) (fun y => ∃ k, y = .int k ∧ P k) ds fun d hd => by
    obtain ⟨k, e, p⟩ := h d hd
    exact ⟨_, _, rfl, rfl, e, k, rfl, p⟩
  obtain ⟨ks, rfl, h4, h5⟩ := ints_of h3
  refine ⟨ks, ?_, h4.trans h2, h5⟩
  rw [gComp_ap, hg]
  simp [hn, h1]
theorem comp_map {vs : List Nat} {i : Nat} {E : Rho → O PyData} {gi : Rho → O (List PyData)} {ρ : Rho} {ds : List PyData} (y : PyData → PyData) (hg : gi ρ = .ok ds) (hn : ds.length ≤ lim)
    (h : ∀ d ∈ ds, E ((wipeR ρ vs).set i (some d)) = .ok (y d)) : gComp vs (aName i) gYes E gi ρ = .ok (.list (ds.map y)) := by
  rw [gComp_ap, hg]
  have := compL_map (f := aName i) (t := gYes) (e := E) (ρ := wipeR ρ vs) y ds fun d hd => ⟨_, rfl, rfl, h d hd⟩
  simp [hn, this]
theorem comp_filter {vs : List Nat} {i : Nat} {T : Rho → O Bool} {E : Rho → O PyData} {gi : Rho → O (List PyData)} {ρ : Rho} {ds : List PyData} (p : PyData → Bool) (y : PyData → PyData) (hg : gi ρ = .ok ds) (hn : ds.length ≤ lim)
    (ht : ∀ d ∈ ds, T ((wipeR ρ vs).set i (some d)) = .ok (p d)) (h : ∀ d ∈ ds, p d = true → E ((wipeR ρ vs).set i (some d)) = .ok (y d)) : gComp vs (aName i) T E gi ρ = .ok (.list ((ds.filter p).map y)) := by
  rw [gComp_ap, hg]
  have := compL_filter (f := aName i) (t := T) (e := E) (ρ := wipeR ρ vs) p y ds fun d hd => ⟨_, rfl, ht d hd, h d hd⟩
  simp [hn, this]
theorem rangeD_int (n : Nat) : rangeD 0 n = (List.range n).map fun (i : Nat) => PyData.int i := by
  unfold rangeD
  congr 1
  funext i
  rw [Int.zero_add]
theorem rangeD_at {n i : Nat} {d : PyData} (h : (rangeD 0 n)[i]? = some d) : d = .int i ∧ i < n := by
  refine ⟨by have := rangeD_get h; rw [Int.zero_add] at this; exact this, ?_⟩
  have := (List.getElem?_eq_some_iff.mp h).1
  rw [rangeD_length] at this
  exact this
theorem set_ints (ts : List Int) (j : Nat) (v : Int) : (ts.map PyData.int).set j (.int v) = (ts.set j v).map PyData.int := List.map_set.symm
end Fn
namespace Fn
open PySem PySem.Spec L2
section
variable (i : Int) (b : Bool) (z : Str) (ds : List PyData)
@[simp] theorem isi_int_n : bIsi "int" .none = .ok (.bool false) := rfl
@[simp] theorem isi_int_b : bIsi "int" (.bool b) = .ok (.bool true) := by cases b <;> rfl
@[simp] theorem isi_int_i : bIsi "int" (.int i) = .ok (.bool true) := rfl
@[simp] theorem isi_int_s : bIsi "int" (.str z) = .ok (.bool false) := rfl
@[simp] theorem isi_int_l : bIsi "int" (.list ds) = .ok (.bool false) := rfl
@[simp] theorem isi_int_t : bIsi "int" (.tuple ds) = .ok (.bool false) := rfl
@[simp] theorem isi_bool_n : bIsi "bool" .none = .ok (.bool false) := rfl
@[simp] theorem isi_bool_b : bIsi "bool" (.bool b) = .ok (.bool true) := rfl
@[simp] theorem isi_bool_i : bIsi "bool" (.int i) = .ok (.bool false) := rfl
@[simp] theorem isi_bool_s : bIsi "bool" (.str z) = .ok (.bool false) := rfl
@[simp] theorem isi_bool_l : bIsi "bool" (.list ds) = .ok (.bool false) := rfl
@[simp] theorem isi_bool_t : bIsi "bool" (.tuple ds) = .ok (.bool false) := rfl
@[simp] theorem isi_list_n : bIsi "list" .none = .ok (.bool false) := rfl
@[simp] theorem isi_list_b : bIsi "list" (.bool b) = .ok (.bool false) := rfl
@[simp] theorem isi_list_i : bIsi "list" (.int i) = .ok (.bool false) := rfl
@[simp] theorem isi_list_s : bIsi "list" (.str z) = .ok (.bool false) := rfl
@[simp] theorem isi_list_l : bIsi "list" (.list ds) = .ok (.bool true) := rfl
@[simp] theorem isi_list_t : bIsi "list" (.tuple ds) = .ok (.bool false) := rfl
@[simp] theorem isi_tuple_n : bIsi "tuple" .none = .ok (.bool false) := rfl
@[simp] theorem isi_tuple_b : bIsi "tuple" (.bool b) = .ok (.bool false) := rfl
@[simp] theorem isi_tuple_i : bIsi "tuple" (.int i) = .ok (.bool false) := rfl
@[simp] theorem isi_tuple_s : bIsi "tuple" (.str z) = .ok (.bool false) := rfl
@[simp] theorem isi_tuple_l : bIsi "tuple" (.list ds) = .ok (.bool false) := rfl
@[simp] theorem isi_tuple_t : bIsi "tuple" (.tuple ds) = .ok (.bool true) := rfl
@[simp] theorem isi_str_n : bIsi "str" .none = .ok (.bool false) := rfl
@[simp] theorem isi_str_b : bIsi "str" (.bool b) = .ok (.bool false) := rfl
@[simp] theorem isi_str_i : bIsi "str" (.int i) = .ok (.bool false) := rfl
@[simp] theorem isi_str_s : bIsi "str" (.str z) = .ok (.bool true) := rfl
@[simp] theorem isi_str_l : bIsi "str" (.list ds) = .ok (.bool false) := rfl
@[simp] theorem isi_str_t : bIsi "str" (.tuple ds) = .ok (.bool false) := rfl
end
/-! slices -/
theorem cutL_to {α : Type} (ds : List α) (k : Nat) : cutL ds none (some (k : Int)) = ds.take k := by
  unfold cutL
  rw [HT.sIx_none, HT.sIx_nat, List.drop_zero, Nat.sub_zero]
  by_cases h : k ≤ ds.length
  · rw [Nat.min_eq_left h]
  · rw [Nat.min_eq_right (by omega), List.take_of_length_le (Nat.le_refl _), List.take_of_length_le (by omega)]
theorem cutL_from {α : Type} (ds : List α) (k : Nat) : cutL ds (some (k : Int)) none = ds.drop k := by
  unfold cutL
  rw [HT.sIx_none, HT.sIx_nat]
  by_cases h : k ≤ ds.length
  · rw [Nat.min_eq_left h, List.take_of_length_le (by rw [List.length_drop]; exact Nat.le_refl _)]
  · rw [Nat.min_eq_right (by omega), Nat.sub_self, List.take_zero, List.drop_eq_nil_of_le (by omega)]
theorem cutL_from1 {α : Type} (ds : List α) (k : Nat) : cutL ds (some ((k : Int) + 1)) none = ds.drop (k + 1) := cutL_from ds (k + 1)
theorem cutL_last {α : Type} (ds : List α) : cutL ds none (some (-1)) = ds.dropLast := by
  unfold cutL
  rw [HT.sIx_none, List.drop_zero, Nat.sub_zero]
  have e : HT.sIx ds.length ds.length (some (-1)) = ds.length - 1 := by
    have := HT.clip_eq (-1) ds.length ds.length
    rw [if_pos (by decide)] at this
    omega
  rw [e, ← List.dropLast_eq_take]
/-- one of a written list -/
theorem pick (l : List PyData) (c : Int) (m : Int) (hm : m = l.length) (h0 : 0 < m) : ∃ d, d ∈ l ∧ dIx (.list l) (.int (c % m)) = .ok d := by
  have h1 : 0 ≤ c % m := Int.emod_nonneg _ (by omega)
  have h2 : c % m < m := Int.emod_lt_of_pos _ h0
  have h3 := atI_of (xs := l) h1 (by omega)
  exact ⟨_, List.getElem_mem _, dIx_l _ _ h3⟩
theorem bAll_map {α : Type} (p : α → Bool) (ds : List α) : bAll [.list (ds.map fun d => PyData.bool (p d))] = .ok (.bool (ds.all p)) := by
  have e : (ds.map fun d => PyData.bool (p d)) = (ds.map p).map PyData.bool := by rw [List.map_map]; rfl
  unfold bAll
  rw [e]
  show (match blsD ((ds.map p).map PyData.bool) with
    | some ks => O.ok (PyData.bool (ks.all id))
    | none => .bad) = _
  rw [blsD_map]
  show O.ok (PyData.bool ((ds.map p).all id)) = _
  rw [List.all_map]
  rfl
theorem nat_of {c m : Int} (h : 0 < m) : ∃ j : Nat, c % m = j ∧ (j : Int) < m := by
  have h1 : 0 ≤ c % m := Int.emod_nonneg _ (by omega)
  exact ⟨(c % m).toNat, by omega, by have := Int.emod_lt_of_pos c h; omega⟩
end Fn

set_option Elab.async false
set_option linter.all false
set_option maxRecDepth 100000
/-! Lists of their own behind one list: what is handed in. -/
namespace Fn
open PySem PySem.Spec L2
section
variable {K : PySem.W.Frag} {cls : Nat → Addr} {c : Ct} {own : List Nat} {F H F' H' : Hp} {σ : L2.St} {ρ : Rho} {a p : Addr} {es : List PyData}
/-- a list of its own: at a in H, not in F; its items in F -/
def Own1 (K : PySem.W.Frag) (cls : Nat → Addr) (F H : Hp) (a : Addr) (es : List PyData) : Prop := ∃ ys, H a = some (.lst ys) ∧ F a = none ∧ RepL K cls F ys es
theorem Ext.stays {o : HO} (e : Ext F H F' H') (h1 : H a = some o) (h2 : F a = none) : F' a = none := by
  cases q : F' a with
  | none => rfl
  | some u =>
    rcases e.n a u q with z | z
    · rw [h2] at z; cases z
    · rw [h1] at z; cases z
theorem Own1.ext (o : Own1 K cls F H a es) (e : Ext F H F' H') : Own1 K cls F' H' a es := by
  obtain ⟨ys, h1, h2, h3⟩ := o
  exact ⟨ys, e.h _ _ h1, e.stays h1 h2, h3.mono e.f⟩
theorem Own1.upd {u : HO} (o : Own1 K cls F H a es) (hp : a ≠ p) : Own1 K cls F (L2.upd H p u) a es := by
  obtain ⟨ys, h1, h2, h3⟩ := o
  exact ⟨ys, by rw [upd_ne hp]; exact h1, h2, h3⟩
theorem Own1.ne (o : Own1 K cls F H a es) (hp : H p = none) : a ≠ p := by
  obtain ⟨ys, h1, h2, h3⟩ := o
  exact ne_of_none h1 hp
theorem paired_imp {α β : Type} {R R' : α → β → Prop} : ∀ {xs : List α} {ys : List β}, Paired R xs ys → (∀ x y, x ∈ xs → R x y → R' x y) → Paired R' xs ys
  | _, _, .nil, _ => .nil
  | _, _, .cons r t, h => .cons (h _ _ List.mem_cons_self r) (paired_imp t fun x y m => h x y (List.mem_cons_of_mem _ m))
theorem paired_len {α β : Type} {R : α → β → Prop} : ∀ {xs : List α} {ys : List β}, Paired R xs ys → xs.length = ys.length
  | _, _, .nil => rfl
  | _, _, .cons _ t => by rw [List.length_cons, List.length_cons, paired_len t]
theorem paired_get {α β : Type} {R : α → β → Prop} : ∀ {xs : List α} {ys : List β} {k : Nat} {x : α}, Paired R xs ys → xs[k]? = some x → ∃ y, ys[k]? = some y ∧ R x y
  | _, _, k, x, .nil, h => by cases h
  | _, _, 0, x, .cons r t, h => by cases h; exact ⟨_, rfl, r⟩
  | _, _, k + 1, x, .cons r t, h => paired_get (k := k) t h
theorem yes_rd {Q : Bool → Hp → Prop} (h : Q true H) : tYes σ H Q := h
theorem ifT {A B : Prop} (h : A) : if true = true then A else B := by
  rw [if_pos rfl]
  exact h
theorem rd_copies {i : Nat} {wi : TI} {gi : Rho → O (List PyData)} {Q : VK} (hi : FI K c own wi gi) (hio : own.contains i = false) (S : Sim K c.cls c.B own σ H F ρ) (hl : i < ρ.length) {ds : List PyData} {ess : List (List PyData)} (hg : gi ρ = .ok ds) (hn : ds.length ≤ 1000)
    (hd : Paired (fun d es => d = PyData.list es ∨ d = PyData.tuple es) ds ess)
    (q : ∀ p as H' F', Ext F H F' H' → H p = none → F' p = none → (∀ a ∈ as, H a = none) → as.Nodup → p ∉ as → H' p = some (.lst (as.map V.ref)) → Paired (Own1 K c.cls F' H') as ess → Q (.ref p) H') :
    tLc wi (gName i) tYes (tCB (rListOf K) (tCons (tVar i) tNil)) [i] σ H Q := by
  refine hi σ H F ρ _ S ?_
  rw [hg]
  intro J H1 F1 e1 it A hA
  have S1 := S.ext e1
  have hel := paired_len hd
  refine ⟨fun k m H2 => m = ds.length - k ∧ k ≤ ds.length ∧ ∃ F2 as, Ext F1 H1 F2 H2 ∧ H2 A = some (.lst (as.map V.ref)) ∧ F2 A = none ∧ Paired (Own1 K c.cls F2 H2) as (ess.take k) ∧ as.Nodup ∧ A ∉ as ∧ (∀ a ∈ as, H1 a = none) ∧ as.length = k,
    ⟨ds.length, by omega, Nat.zero_le _, F1, [], Ext.newO e1.s hA, upd_same, e1.s.free hA, by rw [List.take_zero]; exact .nil, List.nodup_nil, List.not_mem_nil, fun _ h => absurd h List.not_mem_nil, rfl⟩, ?_⟩
  rintro k m H2 ⟨rfl, hle, F2, as, e2, hD, hF, hp, hnd, hna, hnew, hlen⟩
  obtain ⟨i1, i2, i3⟩ := it F2 H2 e2.f e2.s k
  by_cases hlt : k < ds.length
  · refine .inr ⟨i1 hlt, fun H3 => ∃ F3 as', Ext F1 H1 F3 H3 ∧ H3 A = some (.lst (as'.map V.ref)) ∧ F3 A = none ∧ Paired (Own1 K c.cls F3 H3) as' (ess.take (k + 1)) ∧ as'.Nodup ∧ A ∉ as' ∧ (∀ a ∈ as', H1 a = none) ∧ as'.length = k + 1,
      fun H3 z => ⟨ds.length - (k + 1), by omega, rfl, hlt, z⟩, fun x H3 y => ?_⟩
    obtain ⟨F3, e3, r3⟩ := i3 x H3 ds[k] (List.getElem?_eq_getElem hlt) y
    have hk : k < ess.length := by omega
    obtain ⟨es, he, hdk⟩ := paired_get hd (List.getElem?_eq_getElem hlt)
    have e13 := e2.trans e3
    have S3 := (S1.ext e13).wipe [i]
    have hlw : i < (wipeR ρ [i]).length := by
      show i < (ρ.set i none).length
      rw [List.length_set]
      exact hl
    refine fc_name (K := K) (c := c.noW) (own := own) (i := i) (vs := [i]) hio (by simp) x ds[k] (L2.wipe σ [i]) H3 F3 (wipeR ρ [i]) _ S3 r3 ?_
    intro σ4 w4 S4
    refine ⟨w4.trans (wipe_wipe σ [i]), ?_⟩
    refine yes_rd (ifT ?_)
    obtain ⟨v, hv, rv⟩ := S4.fro i ds[k] (fun z => by rw [List.contains_iff_mem.mpr z] at hio; cases hio) (by rw [List.getElem?_set]; simp [hl])
    obtain ⟨b, ys, rfl, hs, ry⟩ : ∃ b ys, v = .ref b ∧ (SqL K H3 b ys ∨ SqT K H3 b ys) ∧ RepL K c.cls F3 ys es := by
      rcases hdk with z | z <;> rw [z] at rv
      · cases rv with
        | ls h r => exact ⟨_, _, rfl, .inl (SqL.of (e13.s _ _ h)), r⟩
      · cases rv with
        | tp h r => exact ⟨_, _, rfl, .inr (Same.tup e13.s h), r⟩
    refine ⟨_, hv, b, ys, rfl, hs, fun l nl => ?_⟩
    have hD3 := e3.h _ _ hD
    have nA : A ≠ l := ne_of_none hD3 nl
    have f3A : F3 A = none := e3.stays hD hF
    have l1 : H1 l = none := e13.h.free nl
    refine ⟨as.map V.ref, by rw [upd_ne nA]; exact hD3, by rw [List.length_map, hlen]; exact lt_lim (lim_gt (by omega)), F3, as ++ [l], (e13.updNew l1 (e13.s.free nl)).updNew hA f3A, by rw [upd_same, List.map_append]; rfl, f3A, ?_, ?_, ?_, ?_, by rw [List.length_append, hlen]; rfl⟩
    · have ht : ess.take (k + 1) = ess.take k ++ [es] := by
        rw [List.take_add_one, he]
        rfl
      rw [ht]
      refine Paired.snoc (paired_imp hp fun b' es' hm o => ?_) ⟨ys, by rw [upd_ne nA.symm]; exact upd_same, e13.s.free nl, ry⟩
      have o3 := o.ext e3
      refine (o3.upd (o3.ne nl)).upd fun z => ?_
      subst z
      exact hna hm
    · rw [List.nodup_append]
      refine ⟨hnd, by simp, fun x hx y hy => ?_⟩
      rw [List.mem_singleton.mp hy]
      intro z
      subst z
      obtain ⟨j, hj⟩ := List.getElem?_of_mem hx
      obtain ⟨_, _, o⟩ := paired_get hp hj
      exact (o.ext e3).ne nl rfl
    · intro z
      rcases List.mem_append.mp z with z | z
      · exact hna z
      · exact nA (List.mem_singleton.mp z)
    · intro b' hb
      rcases List.mem_append.mp hb with z | z
      · exact hnew b' z
      · rw [List.mem_singleton.mp z]; exact l1
  · have : k = ds.length := by omega
    subst this
    refine .inl ⟨i2 rfl, q A as H2 F2 (e1.trans e2) (e1.h.free hA) hF (fun b hb => e1.h.free (hnew b hb)) hnd hna hD ?_⟩
    rw [hel, List.take_length] at hp
    exact hp
end
/-! ### data that may be compared -/
def Nice (n : Nat) (d : PyData) : Prop := plainD d = true ∧ d.canLay0 = true ∧ d.depth ≤ n
theorem Nice.up {n m : Nat} {d : PyData} (h : Nice n d) (hm : n ≤ m) : Nice m d := ⟨h.1, h.2.1, Nat.le_trans h.2.2 hm⟩
theorem nice_int (i : Int) : Nice 0 (.int i) := ⟨rfl, by simp [PyData.canLay0], by simp [PyData.depth]⟩
theorem nice_str {x : Str} (h : PyData.canLay0 (.str x) = true) : Nice 0 (.str x) := ⟨rfl, h, by simp [PyData.depth]⟩
theorem nice_all {n : Nat} : ∀ {ds : List PyData}, (∀ d ∈ ds, Nice n d) → plainAll ds = true ∧ PyData.canLayAll0 ds = true ∧ PyData.depthAll ds ≤ n
  | [], _ => ⟨rfl, by simp [PyData.canLayAll0], by simp [PyData.depthAll]⟩
  | d :: ds, h => by
    obtain ⟨h1, h2, h3⟩ := h d List.mem_cons_self
    obtain ⟨k1, k2, k3⟩ := nice_all fun e he => h e (List.mem_cons_of_mem _ he)
    refine ⟨?_, ?_, ?_⟩
    · unfold plainAll; rw [h1, k1]; rfl
    · unfold PyData.canLayAll0; rw [h2, k2]; rfl
    · unfold PyData.depthAll; exact Nat.max_le.mpr ⟨h3, k3⟩
theorem nice_list {n : Nat} {ds : List PyData} (h : ∀ d ∈ ds, Nice n d) : Nice (n + 1) (.list ds) := by
  obtain ⟨h1, h2, h3⟩ := nice_all h
  refine ⟨?_, ?_, ?_⟩
  · unfold plainD; exact h1
  · unfold PyData.canLay0; exact h2
  · unfold PyData.depth; exact Nat.succ_le_succ h3
theorem nice_tup {n : Nat} {ds : List PyData} (h : ∀ d ∈ ds, Nice n d) : Nice (n + 1) (.tuple ds) := by
  obtain ⟨h1, h2, h3⟩ := nice_all h
  refine ⟨?_, ?_, ?_⟩
  · unfold plainD; exact h1
  · unfold PyData.canLay0; exact h2
  · unfold PyData.depth; exact Nat.succ_le_succ h3
theorem nice_mapI {ks : List Int} : ∀ d ∈ ks.map PyData.int, Nice 0 d := fun d h => by
  obtain ⟨k, _, rfl⟩ := List.mem_map.mp h
  exact nice_int k
theorem Nice.okEq {n : Nat} {d : PyData} (h : Nice n d) (hn : n ≤ 64) : okEq d = true := by
  unfold Fn.okEq SeqAt.shaped
  rw [h.1, h.2.1, decide_eq_true (Nat.le_trans h.2.2 hn)]
  rfl
theorem dEq_self {n : Nat} {d : PyData} (h : Nice n d) (hn : n ≤ 64) : dEq d d = .ok (.bool true) := by
  unfold dEq
  rw [h.okEq hn, SeqAt.eqv_refl d h.2.1, Bool.and_self, Bool.or_true, if_pos rfl]
  try rfl
theorem dNe_self {n : Nat} {d : PyData} (h : Nice n d) (hn : n ≤ 64) : dNe d d = .ok (.bool false) := by
  unfold dNe
  rw [h.okEq hn, SeqAt.eqv_refl d h.2.1, Bool.and_self, Bool.or_true, if_pos rfl]
  try rfl
/-! ### another view of a state -/
section
variable {K : PySem.W.Frag} {cls : Nat → Addr} {B : Hp × Hp × List (Addr × Str)} {F H F' H' : Hp} {σ : L2.St} {ρ ρ' : Rho} {a : Addr} {o : HO}
theorem Sim.stray (S : Sim K cls B [] σ H F ρ) (h1 : F a = none) (h2 : B.1 a = none) (hT : B.2.2 = []) : Sim K cls B [] σ (L2.upd H a o) F ρ where
  tb := fun p hp => absurd hp (by rw [hT]; exact List.not_mem_nil)
  ft := fun p hp => absurd hp (by rw [hT]; exact List.not_mem_nil)
  b := S.b.updNew h2 h1
  len := S.len
  fro := S.fro
  ow := fun i d hi => absurd hi List.not_mem_nil
  sep := fun i j d e a hi => absurd hi List.not_mem_nil
theorem Sim.grown (S : Sim K cls B [] σ H F ρ) (h : Same H H') : Sim K cls B [] σ H' F ρ := S.ext ⟨Same.refl _, h, S.b.s.trans h, fun _ _ z => .inl z, fun _ _ z => z⟩
theorem Sim.setN (S : Sim K cls B [] σ H F ρ) (i : Nat) {v : V} {d : PyData} (r : Rep K cls F v d) : Sim K cls B [] (σ.set i (some v)) H F (ρ.set i (some d)) := S.set i r
end
theorem nx_rd {f : L2.St → Hp → Prop} {r : VK} {b k : L2.St → Hp → Prop} {σ : L2.St} {H : Hp} (h : f σ H) : Ends.nx ⟨f, r, b, k⟩ σ H := h
theorem seq_rd {t u : TS} {D : Ends} {σ : L2.St} {H : Hp} (h : t { D with nx := u D } σ H) : tSeq t u D σ H := h
theorem asg_rd {t : TE} {i : Nat} {D : Ends} {σ : L2.St} {H : Hp} (h : t σ H fun x H1 => D.nx (σ.set i (some x)) H1) : tAsg t (gName i) D σ H := h
theorem next_rd {D : Ends} {σ : L2.St} {H : Hp} (h : D.nx σ H) : tNext D σ H := h
theorem if_rd {c : TT} {t u : TS} {D : Ends} {σ : L2.St} {H : Hp} (h : c σ H fun b H1 => if b = true then t D σ H1 else u D σ H1) : tIfS c t u D σ H := h
theorem forL_rd {K : PySem.W.Frag} {t : TE} {g : TG} {tb : TS} {D : Ends} {σ : L2.St} {H : Hp} (h : tFor (iList K t) g tb D σ H) : tFor (iAny K t) g tb D σ H := .inl h
end Fn

set_option Elab.async false
set_option linter.all false
set_option maxRecDepth 100000
namespace Fn
open PySem PySem.Spec L2
/-! ### a try with a name -/
theorem ifF {A B : Prop} (h : B) : if false = true then A else B := by
  rw [if_neg Bool.false_ne_true]
  exact h
theorem pss_guard {X : Cx} {L : List Stmt} {p : Prop} {t : TS} (h : p → PSs X L t) : PSs X L (fun D σ H => p ∧ t D σ H) := ⟨fun pins s σ H D I q => (h q.1).run pins s σ H D I q.2⟩
theorem zc_of {cls c : Value} {d : Option Addr} {oe : Obj} (h : cls = c ∧ d = none) (hz : Zc cls d oe) : Zc c none oe := by
  obtain ⟨rfl, rfl⟩ := h
  exact hz
def tIsE (K : PySem.W.Frag) (D a : Addr) (i : Nat) (v : V) : TE := tCB (rIsE K D a) (tCons (tVar i) (tCons (tC v) tNil))
def tIsT (K : PySem.W.Frag) (D a : Addr) (i : Nat) (v : V) : TT := fun σ H Q => tIsE K D a i v σ H fun x H' => ∃ k, TruV K x H' k ∧ Q k H'
section
variable (X : Cx) (a : Addr) (pn : List (Addr × Obj)) {D : Addr} {oe : Obj} {i : Nat} {v : V} {n c : Str} {p p1 p2 pos : Pos}
theorem pe_isE (C : ExcC X.K D) (hz : Zc (.ref D) none oe) (hf : ∃ vs, oe.data = .fields vs) (hm : X.mg "isinstance" = none) (hg : Gl (X.suite a ((a, oe) :: pn)) "isinstance") (h1 : PE (X.suite a ((a, oe) :: pn)) (.Name n p1) (tVar i)) (h2 : PE (X.suite a ((a, oe) :: pn)) (.Name c p2) (tC v)) :
    PE (X.suite a ((a, oe) :: pn)) (.Call (.Name "isinstance" p) [.Name n p1, .Name c p2] [] pos) (tIsE X.K D a i v) :=
  pe_callB (X := X.suite a ((a, oe) :: pn)) (call_isE C hz hf) hg hm bt_isinstance (pa_cons h1 (pa_cons h2 pa_nil))
theorem pt_isE (C : ExcC X.K D) (hz : Zc (.ref D) none oe) (hf : ∃ vs, oe.data = .fields vs) (hm : X.mg "isinstance" = none) (hg : Gl (X.suite a ((a, oe) :: pn)) "isinstance") (h1 : PE (X.suite a ((a, oe) :: pn)) (.Name n p1) (tVar i)) (h2 : PE (X.suite a ((a, oe) :: pn)) (.Name c p2) (tC v)) :
    PT (X.suite a ((a, oe) :: pn)) (.Call (.Name "isinstance" p) [.Name n p1, .Name c p2] [] pos) (tIsT X.K D a i v) := pt_truth (pe_isE X a pn C hz hf hm hg h1 h2) (by intro _; rfl)
end
/-- the reading -/
theorem isE_rd {K : PySem.W.Frag} {D a : Addr} {i : Nat} {v : V} {cv : Value} {b : Bool} {σ : L2.St} {H : Hp} {Q : VK} (h : σ[i]? = some (some (.ref a))) (hv : ∀ u, RelV v u → u = cv) (k : PySem.W.kitOne K (.ref D) cv = some b) (q : Q (.bl b) H) : tIsE K D a i v σ H Q :=
  ⟨_, h, v, cv, b, rfl, hv, k, q⟩
theorem isT_rd {K : PySem.W.Frag} {D a : Addr} {i : Nat} {v : V} {cv : Value} {b : Bool} {σ : L2.St} {H : Hp} {Q : Bool → Hp → Prop} (h : σ[i]? = some (some (.ref a))) (hv : ∀ u, RelV v u → u = cv) (k : PySem.W.kitOne K (.ref D) cv = some b) (q : Q b H) : tIsT K D a i v σ H Q :=
  isE_rd h hv k ⟨b, rfl, q⟩
/-- whatever the frame holds -/
def anyW (n : Nat) (W : WX) : XK := fun cl d H => ∀ σ : L2.St, σ.length = n → W cl d σ H
theorem passN {X : Cx} {W : WX} {n : Nat} (tk : Takes X W) (hn : X.N.length = n) : Passes (L2.CX X.prog X.w) X (anyW n W) := fun _ σ _ _ e s' I c => tk e s' (XE.of_call I (fun cls d H' h => h σ (by rw [I.len, hn])) c)
theorem pe_makeT (X : Cx) (pn : List (Addr × Obj)) (xe : Value → Shared → Prop) {cls xc : Nat → Addr} {k j : Nat} {fp : List PyData → O PyData} {E : XK} {p pos : Pos} {e : Expr} {es : List Expr} {t : TA} (o : MkAt X.prog X.w X.K X.mg X.base cls xc k fp) (hr : Room j X.A) (hk : k + 1 ≤ j) (hg : Gl (X.tr pn xe) "Problem")
    (hx : Passes (L2.CX X.prog X.w) (X.tr pn xe) E) (ha : PA (X.tr pn xe) (e :: es) t) (he : starEach (e :: es) X.env = (false, eval e X.env) :: starEach es X.env := by rfl) (hpl : (backTo pos (starEach es X.env)).any (·.1) = false := by rfl) :
    PE (X.tr pn xe) (.Call (.Name "Problem" p) (e :: es) [] pos) (tMake (cls 0) (spI X.K cls xc fp) [] E t) := pe_makeO (X := X.tr pn xe) o hr hk hg hx ha he hpl
theorem pe_callT (X : Cx) (pn : List (Addr × Obj)) (xe : Value → Shared → Prop) {cls xc : Nat → Addr} {x : Str} {ps : List Str} {n k j : Nat} {g : List PyData → O PyData} {W : WX} {p pos : Pos} {e : Expr} {es : List Expr} {t : TA} (o : OkAt X.prog X.w X.K X.mg X.base cls xc x ps n k g) (hr : Room j X.A) (hk : k ≤ j) (hg : Gl (X.tr pn xe) x) (tk : Takes (X.tr pn xe) W) (ha : PA (X.tr pn xe) (e :: es) t) (hdb : (x == ("__debug__" : Str)) = false := by decide)
    (he : starEach (e :: es) X.env = (false, eval e X.env) :: starEach es X.env := by rfl) (hpl : (backTo pos (starEach es X.env)).any (·.1) = false := by rfl) :
    PE (X.tr pn xe) (.Call (.Name x p) (e :: es) [] pos) (tCallS (spF X.K cls xc n g) (WE W) t) := pe_callO (X := X.tr pn xe) o hr hk hg tk ha hdb he hpl
def tTruth (K : PySem.W.Frag) (t : TE) : TT := fun σ H Q => t σ H fun x H' => ∃ k, TruV K x H' k ∧ Q k H'
theorem pt_truthT (X : Cx) (pn : List (Addr × Obj)) (xe : Value → Shared → Prop) {e : Expr} {t : TE} (h : PE (X.tr pn xe) e t) (he : ∀ whole, isTrue e (X.tr pn xe).env whole = (do let v ← whole; standAt e.pos; holding [v] (truthy v))) : PT (X.tr pn xe) e (tTruth X.K t) := pt_truth h he
theorem kit_own {K : PySem.W.Frag} {t c : Addr} {b : Bool} (r : PySem.W.subIn K (.ref t) (.ref t) = some true) (hc : PySem.W.isClsIn K c = true) (ht : PySem.W.typeIn K (.ref c) = some (.type "type")) (hs : PySem.W.subIn K (.ref t) (.ref c) = some b) : PySem.W.kitOne K (.ref t) (.ref c) = some b := by
  by_cases e : t = c
  · subst e
    rw [r] at hs
    cases hs
    unfold PySem.W.kitOne
    rw [if_pos (beq_self_eq_true _)]
  · unfold PySem.W.kitOne
    rw [if_neg (fun z => e (Value.ref.inj (beq_iff_eq.mp z)))]
    have hc : (PySem.W.clsIn K c).isSome = true := hc
    show (if ((PySem.W.clsIn K c).isSome && PySem.W.typeIn K (.ref c) == some (.type "type")) = true then PySem.W.subIn K (.ref t) (.ref c) else none) = some b
    rw [hc, ht, if_pos (by rfl)]
    exact hs
theorem kit_ty2 {K : PySem.W.Frag} {t : Value} {T : String} {b : Bool} (hk : PySem.W.kitMeta T = true) (hn : t ≠ .type T) (hs : PySem.W.subIn K t (.type T) = some b) : PySem.W.kitOne K t (.type T) = some b := by
  unfold PySem.W.kitOne
  rw [if_neg (fun z => hn (beq_iff_eq.mp z))]
  show (if PySem.W.kitMeta T = true then PySem.W.subIn K t (.type T) else none) = some b
  rw [if_pos hk]
  exact hs
/-- what is said of the refusal that is waited for -/
structure RefN (K : PySem.W.Frag) (mg : Str → Option Value) (xc : Nat → Addr) (r : Nat) : Prop where
  x1 : ExcC K (xc r)
  em : PySem.W.exmOne K (.ref (xc r)) (.ref (xc r)) = some true
  k : ∀ j, j < 7 → PySem.W.kitOne K (.ref (xc r)) (.ref (xc j)) = some (j == 0 || j == r)
  kV : PySem.W.kitOne K (.ref (xc r)) (.type "ValueError") = some true
  nV : mg "ValueError" = none
/-- a law: true at every script -/
def spLaw (K : PySem.W.Frag) : Sp := fun vs H Q _ => ∃ (a : Addr) (ns : List Int), vs = [.ref a] ∧ SqL K H a (ns.map V.int) ∧ ns.length ≤ 63 ∧ ∀ H', Q (.bl true) H'
theorem repL_ints {K : PySem.W.Frag} {cls : Nat → Addr} {F : Hp} : ∀ ns : List Int, RepL K cls F (ns.map V.int) (ns.map PyData.int)
  | [] => .nil
  | n :: ns => .cons (.int n) (repL_ints ns)
theorem law_fn {P : Program} {w : World} {K : PySem.W.Frag} {mg : Str → Option Value} {base : Heap} {x qual : Str} {st : Stmt} {f : Addr} {fd : FuncData} {N : List Str} {k : Nat} {cls xc : Nat → Addr} (F : Fun K x qual st f fd) (S : FnScope N ["_law_script"] (defScope st)) (g : Rho → R) (own' : List Nat)
    (h : ∀ (cdv : Value) (A : Around) (outer : List Env) (s : Shared) (H : Hp) (E : XK) (F0 : Hp), Room k (A.deeper (PyProof.Rows.envOfC qual (defScope st) s.heap.objs.size f cdv)) →
      ∃ t, PSs (cxOf (L2.CX P w) P w K mg base N qual (defScope st) f cdv A outer s H E) (defBody st) t ∧ FS K ⟨cls, xc, fun cl d _ H' => E cl d H', (H, F0, []), false⟩ [] [] own' t g)
    (hg : ∀ ns : List Int, ns.length ≤ 63 → fnG N.length g [D.ro (ns.map PyData.int)] = .ok (.bool true)) : FnOk P w K mg base (L2.CX P w) (k + 1) f fd ["_law_script"] (spLaw K) := by
  refine F.okX S (fun vs H Q E h => ?_) (fun cdv A outer s H vs Q E hr hsp => ?_)
  · obtain ⟨a, ns, rfl, _⟩ := h
    rfl
  · obtain ⟨a, ns, rfl, hS, hl, q⟩ := hsp
    obtain ⟨t, ht, hf⟩ := h cdv A outer s H E H hr
    have r0 : RepL K cls H [V.ref a] [D.ro (ns.map PyData.int)] := .cons (.ro hS (repL_ints ns)) .nil
    refine ⟨t, ht, hf _ _ H H (rho0 N.length [D.ro (ns.map PyData.int)]) (sim_start (Same.refl H) r0) ?_⟩
    have q1 := hg ns hl
    unfold fnG at q1
    cases e : g (rho0 N.length [D.ro (ns.map PyData.int)]) with
    | nx ρ' => rw [e] at q1; cases q1
    | rt d =>
      rw [e] at q1
      cases q1
      intro v H' F' _ _ r
      cases r
      exact q H'
    | ex n => rw [e] at q1; cases q1
    | bk ρ' => rw [e] at q1; cases q1
    | ct ρ' => rw [e] at q1; cases q1
    | bad => rw [e] at q1; cases q1
end Fn

set_option Elab.async false
set_option linter.all false
set_option maxRecDepth 100000
/-! zip over a tuple and a list (and any other two of these). b: a list, else a tuple. -/
namespace FnZ
open PySem PySem.Spec PyProof.Rows L2
def Sq (b : Bool) (K : PySem.W.Frag) (H : Hp) (a : Addr) (xs : List V) : Prop := match b with
  | true => SqL K H a xs
  | false => SqT K H a xs
def Its (b : Bool) (h : Heap) (a : Addr) (its : Array Value) : Prop := match b with
  | true => h.IsList a its
  | false => h.IsTuple a its
def At (b : Bool) (h : Heap) (it a : Addr) (i : Nat) : Prop := match b with
  | true => h.IsListIter it a i
  | false => h.IsTupleIter it a i
def objI (b : Bool) (a : Addr) : Obj := match b with
  | true => { cls := .type "list_iterator", data := .fields #[.ref a, .int 0 0] }
  | false => { cls := .type "tuple_iterator", data := .fields #[.ref a, .int 0 0] }
theorem begins (b : Bool) (a : Addr) (its : Array Value) : Begins (.ref a) (objI b a) fun h => Its b h a its := by
  cases b with
  | true => exact begins_list a its
  | false => exact begins_tuple a its
theorem draws (b : Bool) {P : Program} {w : World} {A : Around} (hh : A.handled = none) (it a : Addr) (hne : a ≠ it) (its : Array Value) :
    Draws P w A it [it, a] its.size (fun i v => its[i]? = some v) (fun i h => At b h it a i ∧ Its b h a its) := by
  cases b with
  | true => exact Draws.list hh it a hne its
  | false => exact Draws.tuple hh it a hne its
theorem at_new (b : Bool) {h : Heap} {it a : Addr} (e : h.get? it = some (objI b a)) : At b h it a 0 := by
  cases b with
  | true => exact ⟨_, e, rfl, rfl⟩
  | false => exact ⟨_, e, rfl, rfl⟩
theorem At.there {b : Bool} {h : Heap} {it a : Addr} {i : Nat} (t : At b h it a i) : ∃ o, h.get? it = some o ∧ ∀ v, o.data ≠ .cell v := by
  cases b with
  | true =>
    obtain ⟨o, e, _, d⟩ := t
    exact ⟨o, e, fun v q => by rw [d] at q; cases q⟩
  | false =>
    obtain ⟨o, e, _, d⟩ := t
    exact ⟨o, e, fun v q => by rw [d] at q; cases q⟩
theorem At.moved {b : Bool} {h h' : Heap} {it a : Addr} {i : Nat} (t : At b h it a i) (k : ∀ o, h.get? it = some o → h'.get? it = some o) : At b h' it a i := by
  cases b with
  | true => exact Heap.IsListIter.at t k
  | false => exact Heap.IsTupleIter.at t k
section
variable {X : Cx} {pins : List (Addr × Obj)} {s : Shared} {σ : L2.St} {H : Hp} {a : Addr} {xs ys : List V}
theorem vals (b : Bool) (I : Inv X pins σ H s) (h : Sq b X.K H a xs) : ∃ its : List Value, Vals xs its ∧ Its b s.heap a its.toArray := by
  cases b with
  | true =>
    obtain ⟨its, rv, p, _⟩ := I.list h
    exact ⟨its, rv, p.isList⟩
  | false =>
    obtain ⟨its, rv, p, _⟩ := I.tuple h
    exact ⟨its, rv, p⟩
theorem same (b : Bool) (I : Inv X pins σ H s) (h : Sq b X.K H a xs) (h' : Sq b X.K H a ys) : xs = ys := by
  cases b with
  | true => exact I.list_inj h h'
  | false => exact I.tuple_inj h h'
theorem Its.lt {b : Bool} {h : Heap} {its : Array Value} (p : Its b h a its) : a < h.objs.size := by
  cases b with
  | true =>
    obtain ⟨o, e, _⟩ := p
    exact Heap.lt_size e
  | false =>
    obtain ⟨o, e, _⟩ := p
    exact Heap.lt_size e
end
/-- the sequences at a and c as they stand at each turn, in new pairs -/
def Itm (K : PySem.W.Frag) (b1 b2 : Bool) (a c : Addr) : It where
  go := fun i H => ∃ (xs ys : List V) (x y : V), Sq b1 K H a xs ∧ Sq b2 K H c ys ∧ xs[i]? = some x ∧ ys[i]? = some y
  yld := fun i H v H' => ∃ T x y, v = .ref T ∧ H T = none ∧ H' = upd H T (.tup [x, y]) ∧ (∀ xs, Sq b1 K H a xs → xs[i]? = some x) ∧ ∀ ys, Sq b2 K H c ys → ys[i]? = some y
  stop := fun i H => ∃ xs ys : List V, Sq b1 K H a xs ∧ Sq b2 K H c ys ∧ i ≤ xs.length ∧ i ≤ ys.length ∧ (xs.length = i ∨ ys.length = i)
theorem apart {z TI TO i1 i2 a c : Addr} (D : ZipApart z TI TO i1 i2 a c) : ZipSep2 z TI TO i1 i2 [i1, a] [i2, c] where
  TIz := D.TIz
  TOz := D.TOz
  TITO := D.TITO
  TIi1 := D.TIi1
  mem1 := List.mem_cons_self
  zf1 := by simp [D.i1z.symm, D.l1z.symm]
  Tf1 := by simp [D.TOi1, D.l1TO.symm]
  TIi2 := D.TIi2
  mem2 := List.mem_cons_self
  zf2 := by simp [D.i2z.symm, D.l2z.symm]
  Tf2 := by simp [D.TOi2, D.l2TO.symm]
  sep1_2 := by simp [D.i12, D.l2i1.symm]
  sep2_1 := by simp [D.i12.symm, D.l1i2.symm]
theorem turnM {P : Program} {w : World} {K : PySem.W.Frag} (b1 b2 : Bool) {elts : List Expr} {kk : Nat} {tpos : Pos} {a c z TI TO i1 i2 : Addr} (D : ZipApart z TI TO i1 i2 a c) :
    Turn P w K (.Tuple elts kk tpos) (Itm K b1 b2 a c) [z, TI, TO, i1, i2] z (fun i h => IsZip h z TI TO .none ∧ IsPair h TI (.ref i1) (.ref i2) ∧ (∃ x y, IsPair h TO x y) ∧ At b1 h i1 a i ∧ At b2 h i2 c i) where
  mem := List.mem_cons_self
  obj := fun i h st q hq => by
    obtain ⟨hz, hTI, ⟨x, y, hTO⟩, t1, t2⟩ := st
    simp only [List.mem_cons, List.not_mem_nil, or_false] at hq
    rcases hq with rfl | rfl | rfl | rfl | rfl
    · exact ⟨_, hz, fun v => nofun⟩
    · exact ⟨_, hTI, fun v => nofun⟩
    · exact ⟨_, hTO, fun v => nofun⟩
    · exact t1.there
    · exact t2.there
  keep := fun i h h' st k => by
    obtain ⟨hz, hTI, ⟨x, y, hTO⟩, t1, t2⟩ := st
    refine ⟨k z (by simp) _ hz, k TI (by simp) _ hTI, ⟨x, y, k TO (by simp) _ hTO⟩, t1.moved (k i1 (by simp)), t2.moved (k i2 (by simp))⟩
  item := by
    intro X hP hw hK hc i pins s σ H E I hf st hg
    subst hP hw hK
    obtain ⟨hz, hTI, ⟨x0, y0, hTO⟩, t1, t2⟩ := st
    obtain ⟨xs, ys, x, y, sx, sy, hx, hy⟩ := hg
    obtain ⟨us, rx, px⟩ := vals b1 I sx
    obtain ⟨vs, ry, py⟩ := vals b2 I sy
    obtain ⟨u, hu, ru⟩ := rx.get hx
    obtain ⟨v, hv, rv⟩ := ry.get hy
    have hd := I.ok.hd hc
    have old : ∀ q ∈ [z, TI, TO, i1, i2], q < s.heap.objs.size := fun q hq => by
      simp only [List.mem_cons, List.not_mem_nil, or_false] at hq
      rcases hq with rfl | rfl | rfl | rfl | rfl
      · exact Heap.lt_size hz
      · exact Heap.lt_size hTI
      · exact Heap.lt_size hTO
      · exact Heap.lt_size t1.there.choose_spec.1
      · exact Heap.lt_size t2.there.choose_spec.1
    have zs : s.heap.objs.size ≠ z := Nat.ne_of_gt (old z (by simp))
    have lu : i < us.toArray.size := by
      rw [List.size_toArray]
      exact (List.getElem?_eq_some_iff.mp hu).1
    have lv : i < vs.toArray.size := by
      rw [List.size_toArray]
      exact (List.getElem?_eq_some_iff.mp hv).1
    refine wpAny_pyNext_zipD2_item (apart D) (draws b1 (show X.A.in1.handled = none from hd) i1 a D.l1i1 us.toArray) (draws b2 (show X.A.in1.handled = none from hd) i2 c D.l2i2 vs.toArray) hz hTI hTO ⟨t1, px⟩ ⟨t2, py⟩ lu lv ?_
    intro u' v' h1 tk eu ev z1 TO1 q1 q2 T1 _ k1
    obtain rfl : u = u' := by
      have eu : us.toArray[i]? = some u' := eu
      rw [List.getElem?_toArray, hu] at eu
      exact Option.some.inj eu
    obtain rfl : v = v' := by
      have ev : vs.toArray[i]? = some v' := ev
      rw [List.getElem?_toArray, hv] at ev
      exact Option.some.inj ev
    refine ⟨_, rfl, wpAny_letOwnedTupleGo_zip (s := { s with heap := h1, toks := tk }) z1 fun h2 z2 sb => ?_⟩
    have T2 : h2.get? s.heap.objs.size = some { cls := .type "tuple", data := .seq #[u, v] } := (sb.2 _ zs).trans T1
    have fresh : ObjOk X.prog X.w (upd H s.heap.objs.size (.tup [x, y])) h2 s.heap.objs.size (.tup [x, y]) := ⟨show 2 ≤ sizeLine by decide, [u, v], .cons ru (.cons rv .nil), _, T2, rfl, _, rfl⟩
    have I2 : Inv X pins σ (upd H s.heap.objs.size (.tup [x, y])) { s with heap := h2, toks := tk } := I.turnedNew (t' := tk) (ch := [z, TI, TO, i1, i2]) (fun q o hq e => by
      simp only [List.mem_cons, List.not_mem_nil, or_false, not_or] at hq
      obtain ⟨n1, n2, n3, n4, n5⟩ := hq
      exact (sb.2 q n1).trans (k1 q o n1 n3 n4 n5 e)) hf (Nat.le_refl _) fresh
    refine ⟨V.ref s.heap.objs.size, _, I2, rfl, ⟨_, x, y, rfl, I.hok.fresh (Nat.le_refl _), rfl, fun l hl => ?_, fun l hl => ?_⟩, ⟨z2, ?_, ⟨u, v, ?_⟩, ?_, ?_⟩, fun q hq => ?_⟩
    · rw [same b1 I hl sx]; exact hx
    · rw [same b2 I hl sy]; exact hy
    · exact (sb.2 TI D.TIz).trans (k1 TI _ D.TIz D.TITO D.TIi1 D.TIi2 hTI)
    · exact (sb.2 TO D.TOz).trans TO1
    · exact q1.1.moved fun o e => (sb.2 i1 D.i1z).trans e
    · exact q2.1.moved fun o e => (sb.2 i2 D.i2z).trans e
    · rw [upd_ne (Nat.ne_of_lt (old q hq))]
      exact (hf q hq).1
  done := by
    intro X hP hw hK hc i pins s σ H E I hf st hg
    subst hP hw hK
    obtain ⟨hz, hTI, ⟨x0, y0, hTO⟩, t1, t2⟩ := st
    obtain ⟨xs, ys, sx, sy, l1, l2, hend⟩ := hg
    obtain ⟨us, rx, px⟩ := vals b1 I sx
    obtain ⟨vs, ry, py⟩ := vals b2 I sy
    have hd := I.ok.hd hc
    have n1 := rx.length
    have n2 := ry.length
    refine wpAny_pyNext_zipD2_end (apart D) (draws b1 (show X.A.in1.handled = none from hd) i1 a D.l1i1 us.toArray) (draws b2 (show X.A.in1.handled = none from hd) i2 c D.l2i2 vs.toArray) hz hTI hTO ⟨t1, px⟩ ⟨t2, py⟩ (by simp; omega) (by simp; omega) (by simp; omega) ?_
    intro h1 tk k1
    refine ⟨rfl, I.turnedL (t' := tk) (ch := [z, TI, TO, i1, i2]) (fun q o hq e => ?_) hf⟩
    simp only [List.mem_cons, List.not_mem_nil, or_false, not_or] at hq
    obtain ⟨n1, n2, n3, n4, n5⟩ := hq
    exact k1 q o n1 n3 n4 n5 e
  self := fun A i s Q E st h => wpAny_pyIter_zip st.1 h
/-- zip(e, e2): each a list or a tuple -/
def iZipM (K : PySem.W.Frag) (ta : TA) : TI := fun σ H R => ta σ H fun vs H1 => ∃ b1 b2 a c xs ys, vs = [.ref a, .ref c] ∧ Sq b1 K H1 a xs ∧ Sq b2 K H1 c ys ∧ R (Itm K b1 b2 a c) H1
theorem pi_zipM {X : Cx} {e e2 : Expr} {ta : TA} {p pos tpos : Pos} {elts : List Expr} {kk : Nat} (hg : Gl X "zip") (hm : X.mg "zip" = none) (ha : PA X [e, e2] ta)
    (h1 : starEach [e, e2] X.env = (false, eval e X.env) :: starEach [e2] X.env := by rfl) (h2 : (backTo pos (starEach [e2] X.env)).any (·.1) = false := by rfl) :
    PI X (.Tuple elts kk tpos) (.Call (.Name "zip" p) [e, e2] [] pos) (iZipM X.K ta) where
  run := fun pins s σ H R I h => by
    refine Call_ (ld_blt I hg hm PyProof.Rows.boot_zip (PyProof.Rows.callWith_type1 (thn (ha.run pos pins s σ H _ I h) fun us s1 hq => ?_) h1 h2))
    obtain ⟨vs, H1, I1, r1, b1, b2, a, c, xs, ys, rfl, sx, sy, q⟩ := hq
    match us, r1 with
    | [_, _], .cons r (.cons r' .nil) =>
      cases r
      cases r'
      obtain ⟨us, rx, px⟩ := vals b1 I1 sx
      obtain ⟨vs, ry, py⟩ := vals b2 I1 sy
      refine zip_begins2 (begins b1 a us.toArray) (begins b2 c vs.toArray) px py fun h' z1 TI1 TO1 g1 g2 hsz hk => wpAny_pyIter_zip z1 ?_
      refine ⟨s1.heap.objs.size + 4, [s1.heap.objs.size + 4, s1.heap.objs.size + 2, s1.heap.objs.size + 3, s1.heap.objs.size, s1.heap.objs.size + 1], _, _, H1, rfl, I1.kept (t' := s1.toks) hk, turnM b1 b2 (PySem.W.ktu_apart s1.heap.objs.size a c px.lt py.lt), ⟨z1, TI1, ⟨_, _, TO1⟩, at_new b1 g1, at_new b2 g2⟩, fun q hq => ?_, q⟩
      have hle : s1.heap.objs.size ≤ q := by
        simp only [List.mem_cons, List.not_mem_nil, or_false] at hq
        rcases hq with rfl | rfl | rfl | rfl | rfl
        all_goals first | exact Nat.le_refl _ | exact Nat.le_add_right _ _
      exact I1.fpOk hle (I1.hok.fresh hle)
end FnZ

set_option Elab.async false
set_option linter.all false
set_option maxRecDepth 100000
/-! zip of lists and tuples, by the data. -/
namespace Fn
open PySem PySem.Spec L2
section
variable {K : PySem.W.Frag} {c : Ct} {own : List Nat} {F H : Hp}
def zipJ : List PyData → O (List PyData)
  | [.list ds, .list es] => .ok (zipD ds es)
  | [.tuple ds, .list es] => .ok (zipD ds es)
  | [.list ds, .tuple es] => .ok (zipD ds es)
  | [.tuple ds, .tuple es] => .ok (zipD ds es)
  | _ => .bad
def gZipM (g : Rho → O (List PyData)) : Rho → O (List PyData) := fun ρ => (g ρ).bind zipJ
theorem sq_same {b : Bool} {a : Addr} {xs : List V} (s : Same F H) (h : FnZ.Sq b K F a xs) : FnZ.Sq b K H a xs := by
  cases b with
  | true => exact s.seq h
  | false => exact Same.tup s h
theorem rep_sq {v : V} {d : PyData} {ds : List PyData} (r : Rep K c.cls F v d) (h : d = .list ds ∨ d = .tuple ds) : ∃ b a xs, v = .ref a ∧ FnZ.Sq b K F a xs ∧ RepL K c.cls F xs ds := by
  rcases h with rfl | rfl
  · cases r with
    | ls h r => exact ⟨true, _, _, rfl, SqL.of h, r⟩
  · cases r with
    | tp h r => exact ⟨false, _, _, rfl, h, r⟩
theorem fi_zipM {t : TA} {g : Rho → O (List PyData)} (h : FA K c own true t g) : FI K c own (FnZ.iZipM K t) (gZipM g) := fun σ H F ρ R S q => by
  refine h σ H F ρ _ S (OPost.imp (fun d q v H1 F1 e r => ?_) (fun _ q => q) (OPost.bind q))
  have key : ∀ d1 d2 ds es, (d1 = PyData.list ds ∨ d1 = .tuple ds) → (d2 = PyData.list es ∨ d2 = .tuple es) → RepL K c.cls F1 v [d1, d2] →
      (∀ J H' F', Ext F H F' H' → ItOk K c J F' (zipD ds es) → R J H') → ∃ b1 b2 a c xs ys, v = [.ref a, .ref c] ∧ FnZ.Sq b1 K H1 a xs ∧ FnZ.Sq b2 K H1 c ys ∧ R (FnZ.Itm K b1 b2 a c) H1 := fun d1 d2 ds es k1 k2 r q => by
    cases r with
    | cons ra t0 =>
      cases t0 with
      | cons rb t1 =>
        cases t1
        obtain ⟨b1, a1, xs, rfl, h1, r1⟩ := rep_sq ra k1
        obtain ⟨b2, a2, ys, rfl, h2, r2⟩ := rep_sq rb k2
        refine ⟨b1, b2, a1, a2, xs, ys, rfl, sq_same e.s h1, sq_same e.s h2, q _ _ _ e fun F2 H2 s1 s2 i => ?_⟩
        have q1 := sq_same s2 (sq_same s1 h1)
        have q2 := sq_same s2 (sq_same s1 h2)
        have le : (zipD ds es).length = min xs.length ys.length := by
          unfold zipD
          rw [List.length_zipWith, r1.length, r2.length]
        refine ⟨fun hi => ?_, fun hi => ⟨xs, ys, q1, q2, by omega, by omega, by omega⟩, fun x H' d hd y => ?_⟩
        · rw [le] at hi
          have hx : i < xs.length := by omega
          have hy : i < ys.length := by omega
          exact ⟨xs, ys, xs[i], ys[i], q1, q2, List.getElem?_eq_getElem hx, List.getElem?_eq_getElem hy⟩
        · obtain ⟨T, u, u', rfl, hT, rfl, y1, y2⟩ := y
          unfold zipD at hd
          rw [List.getElem?_zipWith] at hd
          cases hq : ds[i]? with
          | none => rw [hq] at hd; cases hd
          | some d0 =>
            cases hq' : es[i]? with
            | none => rw [hq, hq'] at hd; cases hd
            | some e0 =>
              rw [hq, hq'] at hd
              cases hd
              obtain ⟨w, w1, w2⟩ := r1.get hq
              obtain ⟨z, z1, z2⟩ := r2.get hq'
              have e1 := y1 xs q1
              rw [w1] at e1
              cases e1
              have e2 := y2 ys q2
              rw [z1] at e2
              cases e2
              exact ⟨_, Ext.new s2 hT, .tp (SqT.of upd_same) (.cons ((w2.mono s1).mono (same_upd (s2.free hT))) (.cons ((z2.mono s1).mono (same_upd (s2.free hT))) .nil))⟩
  unfold zipJ at q
  split at q
  · exact key _ _ _ _ (.inl rfl) (.inl rfl) r q
  · exact key _ _ _ _ (.inr rfl) (.inl rfl) r q
  · exact key _ _ _ _ (.inl rfl) (.inr rfl) r q
  · exact key _ _ _ _ (.inr rfl) (.inr rfl) r q
  · exact q.elim
end
section
variable (ρ : Rho) (gs : Rho → O (List PyData)) (ds es : List PyData)
@[simp] theorem gZipM_ap : gZipM gs ρ = (gs ρ).bind zipJ := rfl
@[simp] theorem zipJ_ll : zipJ [.list ds, .list es] = .ok (zipD ds es) := rfl
@[simp] theorem zipJ_tl : zipJ [.tuple ds, .list es] = .ok (zipD ds es) := rfl
@[simp] theorem zipJ_lt : zipJ [.list ds, .tuple es] = .ok (zipD ds es) := rfl
@[simp] theorem zipJ_tt : zipJ [.tuple ds, .tuple es] = .ok (zipD ds es) := rfl
end
end Fn

set_option Elab.async false
set_option linter.all false
set_option maxRecDepth 100000
/-! Defs that tell a new list; calls that are lent lists which change later. -/
namespace Fn
open PySem PySem.Spec L2
/-! ### lent lists -/
def over (L : List Addr) (H F : Hp) : Hp := fun a => if a ∈ L then H a else F a
def less (L : List Addr) (F F' : Hp) : Hp := fun a => if a ∈ L ∧ F a = none then none else F' a
/-! data without lists and objects -/
mutual
def noL : PyData → Bool
  | .none | .bool _ | .int _ | .str _ => true
  | .tuple ds => noLs ds
  | _ => false
def noLs : List PyData → Bool
  | [] => true
  | d :: ds => noL d && noLs ds
end
section
variable {K : PySem.W.Frag} {cls : Nat → Addr} {c : Ct} {own : List Nat} {b : Bool} {F H F' H' G : Hp}
theorem tup_but {a : Addr} {xs : List V} (h : SqT K F a xs) (k : ∀ a o, F a = some o → (∀ ys, o ≠ .lst ys) → G a = some o) : SqT K G a xs := by
  rcases h with (h | ⟨o, h⟩) | h
  · exact .inl (.inl (k _ _ h fun ys => nofun))
  · exact .inl (.inr ⟨o, k _ _ h fun ys => nofun⟩)
  · exact .inr h
mutual
theorem rep_but (k : ∀ a o, F a = some o → (∀ ys, o ≠ .lst ys) → G a = some o) : ∀ {v : V} {d : PyData}, Rep K cls F v d → noL d = true → Rep K cls G v d
  | _, _, .non, _ => .non
  | _, _, .bl b, _ => .bl b
  | _, _, .int i, _ => .int i
  | _, _, .str x, _ => .str x
  | _, _, .ls _ _, p => by unfold noL at p; cases p
  | _, _, .tp h r, p => .tp (tup_but h k) (repL_but k r (by unfold noL at p; exact p))
  | _, _, .ro _ _, p => by unfold noL at p; cases p
  | _, _, .ob _ _, p => by unfold noL at p; cases p
theorem repL_but (k : ∀ a o, F a = some o → (∀ ys, o ≠ .lst ys) → G a = some o) : ∀ {vs : List V} {ds : List PyData}, RepL K cls F vs ds → noLs ds = true → RepL K cls G vs ds
  | _, _, .nil, _ => .nil
  | _, _, .cons r t, p => by
    unfold noLs at p
    rw [Bool.and_eq_true] at p
    exact .cons (rep_but k r p.1) (repL_but k t p.2)
end
theorem over_up (s : Same F H) (L : List Addr) : Same F (over L H F) := fun a o e => by
  unfold over
  split
  · exact s a o e
  · exact e
theorem over_in (s : Same F H) (L : List Addr) : Same (over L H F) H := fun a o e => by
  unfold over at e
  split at e
  · exact e
  · exact s a o e
theorem over_mono (L L' : List Addr) (h : ∀ a ∈ L, a ∈ L') (s : Same F H) : Same (over L H F) (over L' H F) := fun a o e => by
  unfold over at e ⊢
  by_cases m : a ∈ L'
  · rw [if_pos m]
    split at e
    · exact e
    · exact s a o e
  · rw [if_neg m]
    rw [if_neg fun z => m (h a z)] at e
    exact e
/-- what is lent stands, as long as it is lent -/
theorem lent (s : Same F H) : ∀ {vs : List V} {ds : List PyData}, Paired (Rep1 K c F H) vs ds → ∃ L, (∀ a ∈ L, ∃ xs, H a = some (.lst xs)) ∧ RepL K c.cls (over L H F) vs ds
  | _, _, .nil => ⟨[], fun a h => absurd h List.not_mem_nil, .nil⟩
  | _, _, .cons r t => by
    obtain ⟨L, h1, h2⟩ := lent s t
    rcases r with r | ⟨a, xs, es, rfl, rfl, h3, h4⟩
    · exact ⟨L, h1, .cons (r.mono (over_up s L)) h2⟩
    · refine ⟨a :: L, fun a' hm => ?_, .cons (.ls (xs := xs) ?_ (h4.mono (over_up s _))) (h2.mono (over_mono L (a :: L) (fun a h => List.mem_cons_of_mem _ h) s))⟩
      · rcases List.mem_cons.mp hm with rfl | z
        · exact ⟨xs, h3⟩
        · exact h1 a' z
      · unfold over
        rw [if_pos List.mem_cons_self]
        exact h3
theorem less_ext {L : List Addr} (s : Same F H) (e : Ext (over L H F) H F' H') : Ext F H (less L F F') H' where
  f := fun a o h => by
    unfold less
    rw [if_neg fun z => by rw [h] at z; cases z.2]
    exact e.f a o (over_up s L a o h)
  h := e.h
  s := fun a o h => by
    unfold less at h
    split at h
    · cases h
    · exact e.s a o h
  n := fun a o h => by
    unfold less at h
    split at h
    · cases h
    · rename_i m
      rcases e.n a o h with z | z
      · unfold over at z
        split at z
        · rename_i hm
          cases q : F a with
          | none => exact absurd ⟨hm, q⟩ m
          | some u =>
            have := s a u q
            rw [z] at this
            cases this
            exact .inl rfl
        · exact .inl z
      · exact .inr z
  t := fun a ps h => by
    unfold less at h
    split at h
    · cases h
    · rename_i m
      have z := e.t a ps h
      unfold over at z
      split at z
      · rename_i hm
        cases q : F a with
        | none => exact absurd ⟨hm, q⟩ m
        | some u =>
          have := s a u q
          rw [z] at this
          exact this.symm ▸ rfl
      · exact z
theorem less_but {L : List Addr} (hL : ∀ a ∈ L, ∃ xs, H a = some (.lst xs)) (e : Ext (over L H F) H F' H') : ∀ a o, F' a = some o → (∀ ys, o ≠ .lst ys) → less L F F' a = some o := fun a o h n => by
  unfold less
  rw [if_neg fun z => ?_]
  · exact h
  · obtain ⟨xs, hx⟩ := hL a z.1
    have h1 := e.s a o h
    have h2 := e.h _ _ hx
    rw [h2] at h1
    cases h1
    exact n xs rfl
/-- a call that is lent lists: what it tells has no lists in it -/
def noLO : PyData → O PyData := fun d => if noL d = true then .ok d else .bad
def gFnT (n : Nat) (f : List PyData → O PyData) (g : Rho → O (List PyData)) : Rho → O PyData := fun ρ => (g ρ).bind fun ds => if ds.length = n then (f ds).bind noLO else .bad
theorem fe_callT {n : Nat} {f : List PyData → O PyData} {t : TA} {g : Rho → O (List PyData)} {W : WX} (hW : c.W = W) (h : FA K c own false t g) : FE K c own b (tCallS (spF K c.cls c.xc n f) (WE W) t) (gFnT n f g) := FE.any fun σ H F ρ Q S q => by
  subst hW
  refine h σ H F ρ _ S (OPost.imp (fun ds q vs H1 F1 e1 r1 => ?_) (fun _ q => q) (OPost.bind q))
  split at q
  · rename_i hn
    obtain ⟨L, hL, rL⟩ := lent e1.s r1
    refine ⟨over L H1 F1, ds, over_in e1.s L, rL, hn, OPost.imp (fun d q v H2 F2 e2 r2 => ?_) (fun k q H2 s => q H2 (e1.h.trans s)) (OPost.bind q)⟩
    unfold noLO at q
    split at q
    · rename_i hf
      exact q v H2 (less L F1 F2) (e1.trans (less_ext e1.s e2)) (rep_but (less_but hL e2) r2 hf)
    · exact q.elim
  · exact q.elim
/-! ### a def that tells a new list -/
def spN (K : PySem.W.Frag) (cls xc : Nat → Addr) (n : Nat) (f : List PyData → O PyData) : Sp := fun vs H Q E => ∃ F ds, Same F H ∧ RepL K cls F vs ds ∧ ds.length = n ∧
  OPost (fun d => ∃ es, d = .list es ∧ ∀ p xs H' F', Ext F H F' H' → H' p = some (.lst xs) → F' p = none → H p = none → RepL K cls F' xs es → Q (.ref p) H') (fun k => ∀ H', Same H H' → E (.ref (xc k)) none H') (f ds)
def listO : PyData → O PyData
  | .list ds => .ok (.list ds)
  | _ => .bad
def gFnL (n : Nat) (f : List PyData → O PyData) (g : Rho → O (List PyData)) : Rho → O PyData := fun ρ => (g ρ).bind fun ds => if ds.length = n then (f ds).bind listO else .bad
theorem gFnL_list {n : Nat} {f : List PyData → O PyData} {g : Rho → O (List PyData)} : ∀ ρ d, gFnL n f g ρ = .ok d → ∃ ds, d = .list ds := fun ρ d h => by
  unfold gFnL at h
  obtain ⟨ds, _, h⟩ := O.bind_okI h
  split at h
  · obtain ⟨e, _, h⟩ := O.bind_okI h
    unfold listO at h
    split at h
    · cases h; exact ⟨_, rfl⟩
    · cases h
  · cases h
theorem fo_callN {n : Nat} {f : List PyData → O PyData} {t : TA} {g : Rho → O (List PyData)} {W : WX} (hW : c.W = W) (h : FA K c own true t g) : FO K c own (tCallS (spN K c.cls c.xc n f) (WE W) t) (gFnL n f g) := fun σ H F ρ Q S q => by
  subst hW
  refine h σ H F ρ _ S (OPost.imp (fun ds q vs H1 F1 e1 r1 => ?_) (fun _ q => q) (OPost.bind q))
  split at q
  · rename_i hn
    refine ⟨F1, ds, e1.s, r1, hn, OPost.imp (fun d q => ?_) (fun k q H2 s => q H2 (e1.h.trans s)) (OPost.bind q)⟩
    unfold listO at q
    split at q
    · obtain ⟨es, e0, q2⟩ := q
      cases e0
      exact ⟨_, rfl, fun p xs H2 F2 e2 h2 f2 hn r2 => q2 p xs H2 F2 (e1.trans e2) h2 f2 (e1.h.free hn) r2⟩
    · exact q.elim
  · exact q.elim
/-- .. lent lists; the items of what it tells have no lists in them -/
def listT : PyData → O PyData
  | .list ds => if noLs ds = true then .ok (.list ds) else .bad
  | _ => .bad
def gFnM (n : Nat) (f : List PyData → O PyData) (g : Rho → O (List PyData)) : Rho → O PyData := fun ρ => (g ρ).bind fun ds => if ds.length = n then (f ds).bind listT else .bad
theorem gFnM_list {n : Nat} {f : List PyData → O PyData} {g : Rho → O (List PyData)} : ∀ ρ d, gFnM n f g ρ = .ok d → ∃ ds, d = .list ds := fun ρ d h => by
  unfold gFnM at h
  obtain ⟨ds, _, h⟩ := O.bind_okI h
  split at h
  · obtain ⟨e, _, h⟩ := O.bind_okI h
    unfold listT at h
    split at h
    · split at h
      · cases h; exact ⟨_, rfl⟩
      · cases h
    · cases h
  · cases h
theorem fo_callM {n : Nat} {f : List PyData → O PyData} {t : TA} {g : Rho → O (List PyData)} {W : WX} (hW : c.W = W) (h : FA K c own false t g) : FO K c own (tCallS (spN K c.cls c.xc n f) (WE W) t) (gFnM n f g) := fun σ H F ρ Q S q => by
  subst hW
  refine h σ H F ρ _ S (OPost.imp (fun ds q vs H1 F1 e1 r1 => ?_) (fun _ q => q) (OPost.bind q))
  split at q
  · rename_i hn
    obtain ⟨L, hL, rL⟩ := lent e1.s r1
    refine ⟨over L H1 F1, ds, over_in e1.s L, rL, hn, OPost.imp (fun d q => ?_) (fun k q H2 s => q H2 (e1.h.trans s)) (OPost.bind q)⟩
    unfold listT at q
    split at q
    · split at q
      · rename_i hf
        obtain ⟨es, e0, q2⟩ := q
        cases e0
        refine ⟨_, rfl, fun p xs H2 F2 e2 h2 f2 hn r2 => q2 p xs H2 (less L F1 F2) (e1.trans (less_ext e1.s e2)) h2 ?_ (e1.h.free hn) (repL_but (less_but hL e2) r2 hf)⟩
        unfold less
        split
        · rfl
        · exact f2
      · exact q.elim
    · exact q.elim
  · exact q.elim
end
section
variable {P : Program} {w : World} {K : PySem.W.Frag} {mg : Str → Option Value} {base : Heap}
theorem fn_okN {x qual : Str} {st : Stmt} {f : Addr} {fd : FuncData} {N ps : List Str} {k : Nat} {cls xc : Nat → Addr} (F : Fun K x qual st f fd) (S : FnScope N ps (defScope st)) (g : Rho → R) (own' : List Nat)
    (h : ∀ (cdv : Value) (A : Around) (outer : List Env) (s : Shared) (H : Hp) (E : XK) (F0 : Hp), Room k (A.deeper (PyProof.Rows.envOfC qual (defScope st) s.heap.objs.size f cdv)) →
      ∃ t, PSs (cxOf (L2.CX P w) P w K mg base N qual (defScope st) f cdv A outer s H E) (defBody st) t ∧ FS K ⟨cls, xc, fun cl d _ H' => E cl d H', (H, F0, []), true⟩ [] [] own' t g) :
    FnOk P w K mg base (L2.CX P w) (k + 1) f fd ps (spN K cls xc ps.length (fnG N.length g)) := by
  refine F.okX S (fun vs H Q E h => ?_) (fun cdv A outer s H vs Q E hr hsp => ?_)
  · obtain ⟨F0, ds, _, r, hn, _⟩ := h
    rw [r.length]; exact hn
  · obtain ⟨F0, ds, sF, r, hn, q⟩ := hsp
    obtain ⟨t, ht, hf⟩ := h cdv A outer s H E F0 hr
    refine ⟨t, ht, hf _ _ H F0 (rho0 N.length ds) (sim_start sF r) ?_⟩
    unfold fnG at q
    cases e : g (rho0 N.length ds) with
    | nx ρ' =>
      rw [e] at q
      obtain ⟨es, e0, _⟩ := q
      cases e0
    | rt d =>
      rw [e] at q
      obtain ⟨es, e0, q2⟩ := q
      exact ⟨es, e0, fun p xs H' F' e _ => q2 p xs H' F' e⟩
    | ex n => rw [e] at q; exact fun σ' H' s' => q H' s'
    | bk ρ' => rw [e] at q; exact q.elim
    | ct ρ' => rw [e] at q; exact q.elim
    | bad => rw [e] at q; exact q.elim
/-- a def of the top that tells a new list -/
def OkNAt (P : Program) (w : World) (K : PySem.W.Frag) (mg : Str → Option Value) (base : Heap) (cls xc : Nat → Addr) (x : Str) (ps : List Str) (n k : Nat) (g : List PyData → O PyData) : Prop :=
  ∃ f fd, FnOk P w K mg base (L2.CX P w) k f fd ps (spN K cls xc n g) ∧ mg x = some (.ref f) ∧ PySem.W.keepIn K (.ref f) = true ∧ Binds K fd ps []
theorem okNAt_of {cls xc : Nat → Addr} {x : Str} {st : Stmt} {ps N : List Str} {k : Nat} (d : DefAt K mg x st ps) (S : FnScope N ps (defScope st)) (g : Rho → R) (own' : List Nat)
    (h : ∀ (f : Addr) (cdv : Value) (A : Around) (outer : List Env) (s : Shared) (H : Hp) (E : XK) (F0 : Hp), Room k (A.deeper (PyProof.Rows.envOfC x (defScope st) s.heap.objs.size f cdv)) →
      ∃ t, PSs (cxOf (L2.CX P w) P w K mg base N x (defScope st) f cdv A outer s H E) (defBody st) t ∧ FS K ⟨cls, xc, fun cl d _ H' => E cl d H', (H, F0, []), true⟩ [] [] own' t g) :
    OkNAt P w K mg base cls xc x ps ps.length (k + 1) (fnG N.length g) := by
  obtain ⟨f, fd, F, m, b⟩ := d
  exact ⟨f, fd, fn_okN F S g own' (h f), m, F.kp, b⟩
end
theorem pe_callNO {X : Cx} {cls xc : Nat → Addr} {x : Str} {ps : List Str} {n k j : Nat} {g : List PyData → O PyData} {W : WX} {p pos : Pos} {e : Expr} {es : List Expr} {t : TA} (o : OkNAt X.prog X.w X.K X.mg X.base cls xc x ps n k g) (hr : Room j X.A) (hk : k ≤ j) (hg : Gl X x) (tk : Takes X W) (ha : PA X (e :: es) t) (hdb : (x == ("__debug__" : Str)) = false := by decide)
    (he : starEach (e :: es) X.env = (false, eval e X.env) :: starEach es X.env := by rfl) (hpl : (backTo pos (starEach es X.env)).any (·.1) = false := by rfl) :
    PE X (.Call (.Name x p) (e :: es) [] pos) (tCallS (spN X.K cls xc n g) (WE W) t) := by
  obtain ⟨f, fd, F, m, kp, b⟩ := o
  exact pe_callS F (hr.mono hk) hg m kp b (fun σ => passAt tk σ) ha hdb he hpl
section
variable (ρ : Rho) (gs : Rho → O (List PyData)) (f : List PyData → O PyData) (n : Nat) (ds : List PyData)
@[simp] theorem gFnL_ap : gFnL n f gs ρ = (gs ρ).bind fun ds => if ds.length = n then (f ds).bind listO else .bad := rfl
@[simp] theorem gFnM_ap : gFnM n f gs ρ = (gs ρ).bind fun ds => if ds.length = n then (f ds).bind listT else .bad := rfl
@[simp] theorem gFnT_ap : gFnT n f gs ρ = (gs ρ).bind fun ds => if ds.length = n then (f ds).bind noLO else .bad := rfl
@[simp] theorem listO_l : listO (.list ds) = .ok (.list ds) := rfl
end
end Fn

set_option Elab.async false
set_option linter.all false
set_option maxRecDepth 100000
/-! math.gcd; // by any divisor but nought. -/
namespace Fn
open PySem PySem.Spec L2
section
variable {K : PySem.W.Frag} {c : Ct} {b : Bool}
def bGcd : List PyData → O PyData
  | [.int i, .int j] => .ok (.int ((Nat.gcd i.natAbs j.natAbs : Nat) : Int))
  | _ => .bad
@[simp] theorem bGcd_i (i j : Int) : bGcd [.int i, .int j] = .ok (.int ((Nat.gcd i.natAbs j.natAbs : Nat) : Int)) := rfl
theorem cf_gcd : CallF K c b rGcd bGcd := fun F H xs ds Q s r q => by
  unfold bGcd at q
  split at q
  · rename_i i j
    obtain ⟨x, y, rfl, h1, h2⟩ := paired2 r
    exact ⟨i, j, by rw [Rep1.int h1, Rep1.int h2], q _ _ _ (Ext.refl s) (.of (.int _))⟩
  · exact q.elim
def CDivX (_ j : Int) : Prop := j ≠ 0 ∧ j.natAbs.log2 < 9000
theorem op_fdivX {X : Cx} : OpR X (binaryOp .FloorDiv) (rI CDivX fun i j => .int (i.fdiv j)) := opI fun i j _ _ _ _ _ hc q => by
  exact PyProof.Rows.floordiv_int hc.1 q (.inl (PyProof.noPylong_of_log2 hc.2))
def dFdivX : PyData → PyData → O PyData
  | .int i, .int j => if j ≠ 0 ∧ j.natAbs.log2 < 9000 then .ok (.int (i.fdiv j)) else .bad
  | _, _ => .bad
@[simp] theorem dFdivX_int (i j : Int) : dFdivX (.int i) (.int j) = if j ≠ 0 ∧ j.natAbs.log2 < 9000 then .ok (.int (i.fdiv j)) else .bad := rfl
theorem opf_fdivX : OpF K c b (rI CDivX fun i j => .int (i.fdiv j)) dFdivX := opf_int (C := CDivX) (fun i j H Q h q => ⟨i, j, rfl, rfl, h, q⟩)
  (fun d e z h => by unfold dFdivX at h; split at h <;> first | (split at h <;> first | (cases h; exact ⟨_, _, rfl, rfl, ‹_›, rfl⟩) | cases h) | cases h) (fun d e n h => by unfold dFdivX at h; split at h <;> (try split at h) <;> cases h)
abbrev gFdivX := g2 fun d e => noEx (dFdivX d e)
end
end Fn

set_option Elab.async false
set_option linter.all false
set_option maxRecDepth 100000
/-! What comes of comprehensions and loops over lists of a kind. -/
namespace Fn
open PySem PySem.Spec L2
theorem compL_of {α : Type} {f : PyData → Rho → O Rho} {t : Rho → O Bool} {e : Rho → O PyData} {ρ : Rho} (φ ψ : α → PyData) : ∀ (L : List α), (∀ a ∈ L, ∃ ρ1, f (φ a) ρ = .ok ρ1 ∧ t ρ1 = .ok true ∧ e ρ1 = .ok (ψ a)) → compL f t e ρ (L.map φ) = .ok (L.map ψ)
  | [], _ => rfl
  | a :: L, h => by
    obtain ⟨ρ1, h1, h2, h3⟩ := h a List.mem_cons_self
    rw [List.map_cons, List.map_cons]
    unfold compL
    rw [h1, O.bind_ok, h2]
    show (noEx (e ρ1)).bind _ = _
    rw [h3]
    show (compL f t e ρ (L.map φ)).bind _ = _
    rw [compL_of φ ψ L fun d hd => h d (List.mem_cons_of_mem _ hd)]
    rfl
theorem comp_of {α : Type} {vs : List Nat} {f : PyData → Rho → O Rho} {t : Rho → O Bool} {e : Rho → O PyData} {gi : Rho → O (List PyData)} {ρ : Rho} (L : List α) (φ ψ : α → PyData) (hg : gi ρ = .ok (L.map φ)) (hn : L.length ≤ lim)
    (h : ∀ a ∈ L, ∃ ρ1, f (φ a) (wipeR ρ vs) = .ok ρ1 ∧ t ρ1 = .ok true ∧ e ρ1 = .ok (ψ a)) : gComp vs f t e gi ρ = .ok (.list (L.map ψ)) := by
  rw [gComp_ap, hg]
  have := compL_of (f := f) (t := t) (e := e) (ρ := wipeR ρ vs) φ ψ L h
  simp -implicitDefEqProofs [hn, this]
theorem compL_flt {α : Type} {f : PyData → Rho → O Rho} {t : Rho → O Bool} {e : Rho → O PyData} {ρ : Rho} (φ ψ : α → PyData) (p : α → Bool) : ∀ (L : List α), (∀ a ∈ L, ∃ ρ1, f (φ a) ρ = .ok ρ1 ∧ t ρ1 = .ok (p a) ∧ (p a = true → e ρ1 = .ok (ψ a))) → compL f t e ρ (L.map φ) = .ok ((L.filter p).map ψ)
  | [], _ => rfl
  | a :: L, h => by
    obtain ⟨ρ1, h1, h2, h3⟩ := h a List.mem_cons_self
    have ih := compL_flt φ ψ p L fun d hd => h d (List.mem_cons_of_mem _ hd)
    rw [List.map_cons]
    unfold compL
    rw [h1, O.bind_ok, h2]
    show (if p a = true then (noEx (e ρ1)).bind _ else compL f t e ρ (L.map φ)) = _
    cases hp : p a with
    | true =>
      rw [if_pos rfl, h3 hp, List.filter_cons_of_pos hp]
      show (compL f t e ρ (L.map φ)).bind _ = _
      rw [ih]
      rfl
    | false =>
      rw [if_neg Bool.false_ne_true, List.filter_cons_of_neg (by rw [hp]; exact Bool.false_ne_true)]
      exact ih
theorem comp_flt {α : Type} {vs : List Nat} {f : PyData → Rho → O Rho} {t : Rho → O Bool} {e : Rho → O PyData} {gi : Rho → O (List PyData)} {ρ : Rho} (L : List α) (φ ψ : α → PyData) (p : α → Bool) (hg : gi ρ = .ok (L.map φ)) (hn : L.length ≤ lim)
    (h : ∀ a ∈ L, ∃ ρ1, f (φ a) (wipeR ρ vs) = .ok ρ1 ∧ t ρ1 = .ok (p a) ∧ (p a = true → e ρ1 = .ok (ψ a))) : gComp vs f t e gi ρ = .ok (.list ((L.filter p).map ψ)) := by
  rw [gComp_ap, hg]
  have := compL_flt (f := f) (t := t) (e := e) (ρ := wipeR ρ vs) φ ψ p L h
  simp -implicitDefEqProofs [hn, this]
theorem forL_fold {α β J : Type} {f : PyData → Rho → O Rho} {body : Rho → R} (φ : α → PyData) (emb : β → J → Rho) (S : β → α → β) (I : List α → β → Prop) : ∀ (L pre : List α) (b : β) (j : J), I pre b →
    (∀ p a q b j, L = p ++ a :: q → I (pre ++ p) b → ∃ ρ1 j', f (φ a) (emb b j) = .ok ρ1 ∧ body ρ1 = .nx (emb (S b a) j') ∧ I (pre ++ p ++ [a]) (S b a)) →
    ∃ j', forL f body (L.map φ) (emb b j) = .nx (emb (L.foldl S b) j') ∧ I (pre ++ L) (L.foldl S b)
  | [], pre, b, j, h, _ => ⟨j, rfl, by rw [List.append_nil]; exact h⟩
  | a :: L, pre, b, j, h, hs => by
    obtain ⟨ρ1, j', h1, h2, h3⟩ := hs [] a L b j rfl (by rw [List.append_nil]; exact h)
    rw [List.append_nil] at h3
    obtain ⟨j2, k1, k2⟩ := forL_fold φ emb S I L (pre ++ [a]) (S b a) j' h3 fun p x q b j e hi => by
      subst e
      obtain ⟨ρ2, j2, m1, m2, m3⟩ := hs (a :: p) x q b j rfl (by rw [List.append_assoc] at hi; exact hi)
      refine ⟨ρ2, j2, m1, m2, ?_⟩
      have e1 : pre ++ [a] ++ p ++ [x] = pre ++ (a :: p) ++ [x] := by simp
      rw [e1]
      exact m3
    refine ⟨j2, ?_, by rw [List.append_assoc] at k2; exact k2⟩
    rw [List.map_cons]
    unfold forL
    rw [h1, O.go_ok, h2]
    exact k1
theorem for_fold {α β J : Type} {f : PyData → Rho → O Rho} {body : Rho → R} (L : List α) (φ : α → PyData) (emb : β → J → Rho) (S : β → α → β) (I : List α → β → Prop) {b : β} {j : J} (h0 : I [] b)
    (hs : ∀ p a q b j, L = p ++ a :: q → I p b → ∃ ρ1 j', f (φ a) (emb b j) = .ok ρ1 ∧ body ρ1 = .nx (emb (S b a) j') ∧ I (p ++ [a]) (S b a)) :
    ∃ j', forL f body (L.map φ) (emb b j) = .nx (emb (L.foldl S b) j') ∧ I L (L.foldl S b) := by
  have := forL_fold (f := f) (body := body) φ emb S I L [] b j h0 fun p a q b j e hi => by rw [List.nil_append] at hi ⊢; exact hs p a q b j e hi
  rw [List.nil_append] at this
  exact this
/-- a loop that looks for one that is not as it should be, all are -/
theorem for_all {α J : Type} {f : PyData → Rho → O Rho} {body : Rho → R} (L : List α) (φ : α → PyData) (emb : J → Rho) (j : J) (hs : ∀ a ∈ L, ∀ j, ∃ ρ1 j', f (φ a) (emb j) = .ok ρ1 ∧ body ρ1 = .nx (emb j')) :
    ∃ j', forL f body (L.map φ) (emb j) = .nx (emb j') := by
  obtain ⟨j', h, _⟩ := for_fold (f := f) (body := body) L φ (fun (_ : Unit) j => emb j) (fun _ _ => ()) (fun _ _ => True) (b := ()) (j := j) trivial fun p a q _ j e _ => by
    obtain ⟨ρ1, j', h1, h2⟩ := hs a (by rw [e]; simp) j
    exact ⟨ρ1, j', h1, h2, trivial⟩
  exact ⟨j', h⟩
/-- the same, with its answer -/
theorem for_find {α J : Type} {f : PyData → Rho → O Rho} {body : Rho → R} (φ : α → PyData) (emb : J → Rho) (p : α → Bool) (v : PyData) : ∀ (L : List α) (j : J), (∀ a ∈ L, ∀ j, ∃ ρ1, f (φ a) (emb j) = .ok ρ1 ∧ (p a = true → ∃ j', body ρ1 = .nx (emb j')) ∧ (p a = false → body ρ1 = .rt v)) →
    (L.all p = true ∧ ∃ j', forL f body (L.map φ) (emb j) = .nx (emb j')) ∨ (L.all p = false ∧ forL f body (L.map φ) (emb j) = .rt v)
  | [], j, _ => .inl ⟨rfl, j, rfl⟩
  | a :: L, j, hs => by
    obtain ⟨ρ1, h1, h2, h3⟩ := hs a List.mem_cons_self j
    rw [List.map_cons, List.all_cons]
    cases e : p a with
    | true =>
      obtain ⟨j', h4⟩ := h2 e
      rw [Bool.true_and]
      rcases for_find φ emb p v L j' fun a ha j => hs a (List.mem_cons_of_mem _ ha) j with ⟨k1, j2, k2⟩ | ⟨k1, k2⟩
      · refine .inl ⟨k1, j2, ?_⟩
        unfold forL
        rw [h1, O.go_ok, h4]
        exact k2
      · refine .inr ⟨k1, ?_⟩
        unfold forL
        rw [h1, O.go_ok, h4]
        exact k2
    | false =>
      refine .inr ⟨rfl, ?_⟩
      unfold forL
      rw [h1, O.go_ok, h3 e]
theorem rangeD_map (n : Nat) : rangeD 0 n = (List.range n).map fun (i : Nat) => PyData.int i := rangeD_int n
/-! sizes -/
def Sm (k : Nat) (x : Int) : Prop := x.natAbs < 2 ^ k
theorem Sm.up {k m : Nat} {x : Int} (h : Sm k x) (hm : k ≤ m) : Sm m x := Nat.lt_of_lt_of_le h (Nat.pow_le_pow_right (by decide) hm)
theorem Sm.mul {k m : Nat} {x y : Int} (h : Sm k x) (h2 : Sm m y) : Sm (k + m) (x * y) := wide_lt h h2
theorem Sm.sub {k : Nat} {x y : Int} (h : Sm k x) (h2 : Sm k y) : Sm (k + 1) (x - y) := by
  unfold Sm at *
  rw [Nat.pow_succ]
  omega
theorem Sm.add {k : Nat} {x y : Int} (h : Sm k x) (h2 : Sm k y) : Sm (k + 1) (x + y) := by
  unfold Sm at *
  rw [Nat.pow_succ]
  omega
theorem Sm.neg {k : Nat} {x : Int} (h : Sm k x) : Sm k (-x) := by
  unfold Sm at *
  omega
theorem Sm.ok {k m : Nat} {x y : Int} (h : Sm k x) (h2 : Sm m y) (h0 : 0 < k) (h1 : 0 < m) (hk : k + m ≤ 1000000) : mulOk x y = true := by
  have : CMulW x y := wide_mul h h2 h0 h1 hk
  unfold mulOk
  rw [decide_eq_true (show x.natAbs.log2 + y.natAbs.log2 < 1000000 from this)]
  rfl
theorem Sm.log {k : Nat} {x : Int} (h : Sm k x) (h0 : 0 < k) (h9 : k ≤ 9000) : x.natAbs.log2 < 9000 := Nat.lt_of_lt_of_le (PySem.Flt.log2_lt_of h0 h) h9
theorem Sm.dvd {k : Nat} {x d : Int} (h : Sm k x) (hd : d ∣ x) (hx : x ≠ 0) : Sm k d := by
  unfold Sm at *
  have := Nat.le_of_dvd (by omega) (Int.natAbs_dvd_natAbs.mpr hd)
  omega
/-- what is left of a divided number is no greater -/
theorem Sm.quot {k : Nat} {x d q : Int} (h : Sm k x) (hd : d * q = x) (hd0 : d ≠ 0) : Sm k q := by
  unfold Sm at *
  have h1 : x.natAbs = d.natAbs * q.natAbs := by rw [← hd, Int.natAbs_mul]
  have h2 : 1 ≤ d.natAbs := by omega
  have := Nat.mul_le_mul_right q.natAbs h2
  omega
abbrev lnD (l : List Int) : PyData := .list (l.map PyData.int)
abbrev tbD (t : List (List Int)) : PyData := .list (t.map lnD)
theorem getD_map (l : List Int) (i : Nat) (h : i < l.length) : (l.map PyData.int)[i]? = some (.int (l.getD i 0)) := by
  rw [List.getElem?_map, List.getElem?_eq_getElem h, List.getD_eq_getElem?_getD, List.getElem?_eq_getElem h]
  rfl
theorem ix_int (l : List Int) (i : Nat) (h : i < l.length) : dIx (lnD l) (.int i) = .ok (.int (l.getD i 0)) := dIx_l _ _ (by
  rw [atI_map, atI_getD 0 (by omega) (by omega), Int.toNat_natCast]
  rfl)
theorem ix_row (t : List (List Int)) (i : Nat) (h : i < t.length) : dIx (tbD t) (.int i) = .ok (lnD (t.getD i [])) := dIx_l _ _ (by
  rw [atI_map, atI_getD [] (by omega) (by omega), Int.toNat_natCast]
  rfl)
theorem ixN_nat {n i : Nat} (h : i < n) : ixN n (i : Int) = some i := by
  rw [ixN_of (by omega) (by omega), Int.toNat_natCast]
theorem set_int (l : List Int) (i : Nat) (v : Int) : (l.map PyData.int).set i (.int v) = (l.set i v).map PyData.int := List.map_set.symm
theorem set_row (t : List (List Int)) (i : Nat) (v : List Int) : (t.map lnD).set i (lnD v) = (t.set i v).map lnD := List.map_set.symm
theorem zipD_map {α β : Type} (f : α → PyData) (g : β → PyData) : ∀ (xs : List α) (ys : List β), zipD (xs.map f) (ys.map g) = (xs.zip ys).map fun p => .tuple [f p.1, g p.2]
  | [], _ => by unfold zipD; simp
  | _ :: _, [] => by unfold zipD; simp
  | x :: xs, y :: ys => by
    have ih := zipD_map f g xs ys
    unfold zipD at ih ⊢
    rw [List.map_cons, List.map_cons, List.zipWith_cons_cons, ih, List.zip_cons_cons, List.map_cons]
end Fn

set_option Elab.async false
set_option linter.all false
set_option maxRecDepth 100000
/-! Defs within which a lambda is made: the tables of code objects change. -/
namespace Fn
open PySem PySem.Spec L2
/-- without the tables -/
def hideT (H : Hp) : Hp := fun a => match H a with
  | some (.tbl _) => none
  | o => o
def noTab (H : Hp) : Prop := ∀ a ps, H a ≠ some (.tbl ps)
section
variable {T : List (Addr × Str)} {H F H' F' : Hp} {a : Addr} {o : HO}
theorem hideT_at {ps : Array Value} (h : H a = some (.tbl ps)) : hideT H a = none := by unfold hideT; rw [h]
theorem hideT_off (h : ∀ ps, H a ≠ some (.tbl ps)) : hideT H a = H a := by
  unfold hideT
  split
  · rename_i ps e; exact absurd e (h ps)
  · rfl
theorem hideT_some (h : hideT H a = some o) : H a = some o ∧ ∀ ps, o ≠ .tbl ps := by
  unfold hideT at h
  split at h
  · cases h
  · rename_i n
    exact ⟨h, fun ps e => n ps (by rw [h, e])⟩
theorem hideT_none (h : hideT H a = none) : (∃ ps, H a = some (.tbl ps)) ∨ H a = none := by
  unfold hideT at h
  split at h
  · rename_i ps e; exact .inl ⟨ps, e⟩
  · exact .inr h
theorem hide_same : Same (hideT H) H := fun b o e => (hideT_some e).1
theorem hide_base : noTab (hideT H) := fun a ps e => (hideT_some e).2 ps rfl
theorem tabs_free (t : LamX.Tabs T H) (s : Same F H) (n : noTab F) : ∀ p ∈ T, F p.1 = none := fun p hp => by
  obtain ⟨ps, h1, _⟩ := t p hp
  cases q : F p.1 with
  | none => rfl
  | some o =>
    have := s _ _ q
    rw [h1] at this
    cases this
    exact absurd q (n _ _)
/-- all but the tables stands -/
theorem ExtN.same {H H' : Hp} (e : LamX.ExtN H H') : Same (hideT H) H' := fun a o h => by
  obtain ⟨h1, h2⟩ := hideT_some h
  exact e a o h1 h2
end
section
variable {K : PySem.W.Frag} {cls : Nat → Addr} {B : Hp × Hp × List (Addr × Str)} {own : List Nat} {σ : L2.St} {H F H' F' : Hp} {ρ : Rho}
/-- all but the tables has grown -/
theorem Sim.callT (S : Sim K cls B own σ H F ρ) (hB : noTab B.1) (e : Ext F (hideT H) F' H') (t : TF B.2.2 H' F') : Sim K cls B own σ H' F' ρ where
  b := ⟨S.b.f.trans e.f, fun b o h => e.h b o (by
      rw [hideT_off (fun ps z => by rw [S.b.h b o h] at z; cases z; exact hB _ _ h)]
      exact S.b.h b o h), e.s, fun a o h => by
    rcases e.n a o h with z | z
    · exact S.b.n a o z
    · rcases hideT_none z with ⟨ps, z⟩ | z
      · refine .inr ?_
        cases q : B.1 a with
        | none => rfl
        | some u =>
          have := S.b.h a u q
          rw [z] at this
          cases this
          exact absurd q (hB _ _)
      · exact .inr (S.b.h.free z), fun a ps z => S.b.t a ps (e.t a ps z)⟩
  len := S.len
  fro := fun i d hi h => by
    obtain ⟨v, h1, h2⟩ := S.fro i d hi h
    exact ⟨v, h1, h2.mono e.f⟩
  ow := fun i d hi h => by
    obtain ⟨a, xs, ds, h1, h2, h3, h4, h5, h6⟩ := S.ow i d hi h
    have hh : hideT H a = some (.lst xs) := by
      rw [hideT_off (fun ps z => by rw [h3] at z; cases z)]
      exact h3
    refine ⟨a, xs, ds, h1, h2, e.h _ _ hh, h4.mono e.f, ?_, h6⟩
    cases q : F' a with
    | none => rfl
    | some o =>
      rcases e.n a o q with z | z
      · rw [h5] at z; cases z
      · rw [hh] at z; cases z
  sep := S.sep
  tb := t.1
  ft := t.2
end
/-! ### expressions within which tables may change -/
def FX (K : PySem.W.Frag) (c : Ct) (own : List Nat) (t : TE) (g : Rho → O PyData) : Prop := ∀ σ H F ρ Q, Sim K c.cls c.B own σ H F ρ →
  OPost (fun d => ∀ v H' F', Same F F' → Sim K c.cls c.B own σ H' F' ρ → Rep K c.cls F' v d → Q v H') (fun n => ∀ H', Same c.B.1 H' → c.W (.ref (c.xc n)) none σ H') (g ρ) → t σ H Q
def FXA (K : PySem.W.Frag) (c : Ct) (own : List Nat) (t : TA) (g : Rho → O (List PyData)) : Prop := ∀ σ H F ρ Q, Sim K c.cls c.B own σ H F ρ →
  OPost (fun ds => ∀ vs H' F', Same F F' → Sim K c.cls c.B own σ H' F' ρ → RepL K c.cls F' vs ds → Q vs H') (fun n => ∀ H', Same c.B.1 H' → c.W (.ref (c.xc n)) none σ H') (g ρ) → t σ H Q
def spT (K : PySem.W.Frag) (cls : Nat → Addr) (T : List (Addr × Str)) (n : Nat) (f : List PyData → O PyData) : Sp := fun vs H Q _ => LamX.Tabs T H ∧ ∃ F ds, Same F H ∧ noTab F ∧ RepL K cls F vs ds ∧ ds.length = n ∧
  OPost (fun d => ∀ v H' F', Ext F (hideT H) F' H' → TF T H' F' → Rep K cls F' v d → Q v H') (fun _ => False) (f ds)
def gFnC (n : Nat) (f : List PyData → O PyData) (g : Rho → O (List PyData)) : Rho → O PyData := fun ρ => (g ρ).bind fun ds => if ds.length = n then noEx (f ds) else .bad
section
variable {K : PySem.W.Frag} {c : Ct} {ol own own' : List Nat} {ta : TA} {t : TE} {g : Rho → O PyData} {ga : Rho → O (List PyData)} {n : Nat} {f : List PyData → O PyData} {W : WX}
theorem FE.fx (h : FE K c own true t g) : FX K c own t g := fun σ H F ρ Q S q =>
  h σ H F ρ Q S (OPost.imp (fun d q v H1 F1 e r => q v H1 F1 e.f (S.ext e) r) (fun n q H1 s => q H1 (S.b.h.trans s)) q)
theorem FA.fx (h : FA K c own true ta ga) : FXA K c own ta ga := fun σ H F ρ Q S q =>
  h σ H F ρ Q S (OPost.imp (fun d q v H1 F1 e r => q v H1 F1 e.f (S.ext e) r) (fun n q H1 s => q H1 (S.b.h.trans s)) q)
theorem fxa_cons {ts : TA} {gs : Rho → O (List PyData)} (h : FX K c own t g) (hs : FXA K c own ts gs) : FXA K c own (tCons t ts) (gConsA g gs) := fun σ H F ρ Q S q => by
  refine h σ H F ρ _ S (OPost.imp (fun d q v H1 F1 s1 S1 r1 => ?_) (fun _ q => q) (OPost.bind q))
  refine hs σ H1 F1 ρ _ S1 (OPost.imp (fun ds q vs H2 F2 s2 S2 r2 => ?_) (fun _ q => q) (OPost.bind q))
  exact q (v :: vs) H2 F2 (s1.trans s2) S2 (.cons (r1.mono s2) r2)
theorem fx_callC (hB : noTab c.B.1) (hF : noTab c.B.2.1) (h : FXA K c own ta ga) : FX K c own (tCallS (spT K c.cls c.B.2.2 n f) (WE W) ta) (gFnC n f ga) := fun σ H F ρ Q S q => by
  refine h σ H F ρ _ S (OPost.imp (fun ds q vs H1 F1 s1 S1 r1 => ?_) (fun _ q => q) (OPost.bind q))
  split at q
  · rename_i hn
    refine ⟨S1.tb, F1, ds, S1.s, fun a ps e => hF a ps (S1.b.t a ps e), r1, hn, OPost.imp (fun d q v H2 F2 e2 t2 r2 => ?_) (fun _ q => q) (noEx_post q)⟩
    exact q v H2 F2 (s1.trans e2.f) (S1.callT hB e2 t2) r2
  · exact q.elim
theorem fx_call (hW : c.W = W) (h : FXA K c own ta ga) : FX K c own (tCallS (spF K c.cls c.xc n f) (WE W) ta) (gFn n f ga) := fun σ H F ρ Q S q => by
  subst hW
  refine h σ H F ρ _ S (OPost.imp (fun ds q vs H1 F1 s1 S1 r1 => ?_) (fun _ q => q) (OPost.bind q))
  split at q
  · rename_i hn
    exact ⟨F1, ds, S1.s, r1, hn, OPost.imp (fun d q v H2 F2 e2 r2 => q v H2 F2 (s1.trans e2.f) (S1.ext e2) r2) (fun k q H2 s => q H2 (S1.b.h.trans s)) q⟩
  · exact q.elim
theorem fx_set {i : Nat} (h : FX K c own t g) (hi : own.contains i = false) : FS K c ol own own (tAsg t (gName i)) (gSet i g) := fun D σ H F ρ S q => by
  refine h σ H F ρ _ S (SPost.go q (fun d q v H1 F1 s S1 r => ?_) fun n q H1 s => q σ H1 s)
  have z := S1.set i r
  rw [notIn_of hi] at z
  exact q _ H1 F1 s z
theorem fx_asg {tg : TG} {fa : PyData → Rho → O Rho} (h : FX K c own t g) (hg : FG K c own tg fa) (hx : ∀ d ρ k, fa d ρ ≠ .ex k) : FS K c ol own own (tAsg t tg) (gAsg fa g) := fun D σ H F ρ S q => by
  refine h σ H F ρ _ S (SPost.go q (fun d q v H1 F1 s S1 r => ?_) fun n q H1 s => q σ H1 s)
  refine hg v d σ H1 F1 ρ _ S1 r ?_
  cases ho : fa d ρ with
  | ok ρ' =>
    rw [ho] at q
    exact fun σ' S' => q σ' H1 F1 s S'
  | ex k => exact absurd ho (hx d ρ k)
  | bad => rw [ho] at q; exact q.elim
theorem fx_ret (h : FX K c [] t g) (hf : c.fr = false := by rfl) : FS K c ol own own' (tRet t) (gRet g) := fun D σ H F ρ S q => by
  obtain ⟨F', s, S'⟩ := S.shrink (own' := []) (fun i z => absurd z List.not_mem_nil)
  refine h σ H F' ρ _ S' (SPost.go (SPost.mono q s) (fun d q v H1 F1 s1 S1 r => ?_) fun n q H1 s => q σ H1 s)
  have q : RetP K c c.B.2.1 c.B.1 c.B.2.2 c.fr D.rt d := q
  rw [hf] at q
  exact q v H1 F1 S1.b ⟨S1.tb, S1.ft⟩ r
end
/-! ### such defs -/
theorem sim_startT {K : PySem.W.Frag} {cls : Nat → Addr} {F H : Hp} {T : List (Addr × Str)} {N : List Str} {vs : List V} {ds : List PyData} (t : LamX.Tabs T H) (s : Same F H) (hf : noTab F) (r : RepL K cls F vs ds) : Sim K cls (hideT H, F, T) [] (L2.start N vs) H F (rho0 N.length ds) where
  b := ⟨Same.refl _, hide_same, s, fun _ _ e => .inl e, fun _ _ e => e⟩
  len := (sim_start (cls := cls) (N := N) s r).len
  fro := (sim_start s r).fro
  ow := fun i d hi => absurd hi List.not_mem_nil
  sep := fun i j d e a hi => absurd hi List.not_mem_nil
  tb := t
  ft := tabs_free t s hf
section
variable {P : Program} {w : World} {K : PySem.W.Frag} {mg : Str → Option Value} {base : Heap}
theorem fn_okT {x qual : Str} {st : Stmt} {f : Addr} {fd : FuncData} {N ps : List Str} {k : Nat} {cls xc : Nat → Addr} {T : List (Addr × Str)} (F : Fun K x qual st f fd) (S : FnScope N ps (defScope st)) (g : Rho → R) (own' : List Nat)
    (h : ∀ (cdv : Value) (A : Around) (outer : List Env) (s : Shared) (H : Hp) (E : XK) (F0 : Hp), noTab F0 → Room k (A.deeper (PyProof.Rows.envOfC qual (defScope st) s.heap.objs.size f cdv)) →
      ∃ t, PSs (cxOf (L2.CX P w) P w K mg base N qual (defScope st) f cdv A outer s H E) (defBody st) t ∧ FS K ⟨cls, xc, fun cl d _ H' => E cl d H', (hideT H, F0, T), false⟩ [] [] own' t g) :
    FnOk P w K mg base (L2.CX P w) (k + 1) f fd ps (spT K cls T ps.length (fun ds => noEx (fnG N.length g ds))) := by
  refine F.okX S (fun vs H Q E h => ?_) (fun cdv A outer s H vs Q E hr hsp => ?_)
  · obtain ⟨_, F0, ds, _, _, r, hn, _⟩ := h
    rw [r.length]; exact hn
  · obtain ⟨tb, F0, ds, sF, hf0, r, hn, q⟩ := hsp
    obtain ⟨t, ht, hf⟩ := h cdv A outer s H E F0 hf0 hr
    refine ⟨t, ht, hf _ _ H F0 (rho0 N.length ds) (sim_startT tb sF hf0 r) ?_⟩
    have q : OPost (fun d => ∀ v H' F', Ext F0 (hideT H) F' H' → TF T H' F' → Rep K cls F' v d → Q v H') (fun _ => False) (noEx (outR (g (rho0 N.length ds)))) := q
    cases e : g (rho0 N.length ds) with
    | nx ρ' =>
      rw [e] at q
      exact fun σ' H' F' s' S' => q .non H' F' S'.b ⟨S'.tb, S'.ft⟩ .non
    | rt d => rw [e] at q; exact q
    | ex n => rw [e] at q; exact q.elim
    | bk ρ' => rw [e] at q; exact q.elim
    | ct ρ' => rw [e] at q; exact q.elim
    | bad => rw [e] at q; exact q.elim
def OkTAt (P : Program) (w : World) (K : PySem.W.Frag) (mg : Str → Option Value) (base : Heap) (cls : Nat → Addr) (T : List (Addr × Str)) (x : Str) (ps : List Str) (n k : Nat) (g : List PyData → O PyData) : Prop :=
  ∃ f fd, FnOk P w K mg base (L2.CX P w) k f fd ps (spT K cls T n g) ∧ mg x = some (.ref f) ∧ PySem.W.keepIn K (.ref f) = true ∧ Binds K fd ps []
theorem okTAt_of {cls xc : Nat → Addr} {T : List (Addr × Str)} {x : Str} {st : Stmt} {ps N : List Str} {k : Nat} (d : DefAt K mg x st ps) (S : FnScope N ps (defScope st)) (g : Rho → R) (own' : List Nat)
    (h : ∀ (f : Addr) (cdv : Value) (A : Around) (outer : List Env) (s : Shared) (H : Hp) (E : XK) (F0 : Hp), noTab F0 → Room k (A.deeper (PyProof.Rows.envOfC x (defScope st) s.heap.objs.size f cdv)) →
      ∃ t, PSs (cxOf (L2.CX P w) P w K mg base N x (defScope st) f cdv A outer s H E) (defBody st) t ∧ FS K ⟨cls, xc, fun cl d _ H' => E cl d H', (hideT H, F0, T), false⟩ [] [] own' t g) :
    OkTAt P w K mg base cls T x ps ps.length (k + 1) (fun ds => noEx (fnG N.length g ds)) := by
  obtain ⟨f, fd, F, m, b⟩ := d
  exact ⟨f, fd, fn_okT F S g own' (h f), m, F.kp, b⟩
end
theorem pe_callTO {X : Cx} {cls : Nat → Addr} {T : List (Addr × Str)} {x : Str} {ps : List Str} {n k j : Nat} {g : List PyData → O PyData} {W : WX} {p pos : Pos} {e : Expr} {es : List Expr} {t : TA} (o : OkTAt X.prog X.w X.K X.mg X.base cls T x ps n k g) (hr : Room j X.A) (hk : k ≤ j) (hg : Gl X x) (tk : Takes X W) (ha : PA X (e :: es) t) (hdb : (x == ("__debug__" : Str)) = false := by decide)
    (he : starEach (e :: es) X.env = (false, eval e X.env) :: starEach es X.env := by rfl) (hpl : (backTo pos (starEach es X.env)).any (·.1) = false := by rfl) :
    PE X (.Call (.Name x p) (e :: es) [] pos) (tCallS (spT X.K cls T n g) (WE W) t) := by
  obtain ⟨f, fd, F, m, kp, b⟩ := o
  exact pe_callS F (hr.mono hk) hg m kp b (fun σ => passAt tk σ) ha hdb he hpl
/-- a pure def serves as well -/
theorem spT_weak {K : PySem.W.Frag} {cls : Nat → Addr} {T : List (Addr × Str)} {n : Nat} {f g : List PyData → O PyData} (h : ∀ ds d, f ds = .ok d → g ds = .ok d) {vs : List V} {H : Hp} {Q : VK} {E : XK} (q : spT K cls T n f vs H Q E) : spT K cls T n g vs H Q E := by
  obtain ⟨t, F, ds, s, hf, r, hn, q⟩ := q
  refine ⟨t, F, ds, s, hf, r, hn, ?_⟩
  cases e : f ds with
  | ok d => rw [e] at q; rw [h ds d e]; exact q
  | ex n => rw [e] at q; exact q.elim
  | bad => rw [e] at q; exact q.elim
section
variable (ρ : Rho) (gs : Rho → O (List PyData)) (f : List PyData → O PyData) (n : Nat)
@[simp] theorem gFnC_ap : gFnC n f gs ρ = (gs ρ).bind fun ds => if ds.length = n then noEx (f ds) else .bad := rfl
end
end Fn

set_option Elab.async false
set_option linter.all false
set_option maxRecDepth 100000
set_option maxHeartbeats 2000000
/-! A lambda of one parameter, called by a built-in. -/
namespace LamY
open PySem PySem.Spec PyProof.Rows L2 LamX
/-- one parameter, captured names, globals -/
structure LamS1 (sc scope : Scope) (a : Str) : Prop where
  kind : scope.kind = .function
  co : scope.isCoroutine = false
  gen : scope.isGenerator = false
  own : ∀ y ∈ scope.names, y.2 = .local → y.1 = a
  nocell : ∀ y ∈ scope.names, y.2 ≠ .cell
  par : scope.names.lookup a = some .local
  free : ∀ y ∈ scope.names, y.2 = .free → sc.names.lookup y.1 = some .cell ∨ sc.names.lookup y.1 = some .free
def lamS1B (sc scope : Scope) (a : Str) : Bool :=
  decide (scope.kind = .function) && !scope.isCoroutine && !scope.isGenerator && decide (scope.names.lookup a = some .local) && scope.names.all fun y => (!decide (y.2 = .local) || decide (y.1 = a)) && !decide (y.2 = .cell) && (!decide (y.2 = .free) || decide (sc.names.lookup y.1 = some .cell) || decide (sc.names.lookup y.1 = some .free))
theorem lamS1_by {sc scope : Scope} {a : Str} (h : lamS1B sc scope a = true) : LamS1 sc scope a := by
  unfold lamS1B at h
  simp only [Bool.and_eq_true, Bool.or_eq_true, Bool.not_eq_true', decide_eq_true_eq, decide_eq_false_iff_not, List.all_eq_true] at h
  obtain ⟨⟨⟨⟨h1, h2⟩, h3⟩, h5⟩, h4⟩ := h
  refine ⟨h1, h2, h3, fun y hy e => ?_, fun y hy => (h4 y hy).1.2, h5, fun y hy e => ?_⟩
  · rcases (h4 y hy).1.1 with z | z
    · exact absurd e z
    · exact z
  · rcases (h4 y hy).2 with (z | z) | z
    · exact absurd e z
    · exact .inl z
    · exact .inr z
theorem LamS1.has {X : Cx} {scope : Scope} {a : Str} (L : LamS1 X.env.scope scope a) (ok : X.Ok) : ∀ y ∈ scope.names, y.2 = .free → ∃ c, X.env.cells.lookup y.1 = some c := fun y hy e => by
  rcases L.free y hy e with k | k
  · exact ok.has _ (.inl k)
  · exact ok.has _ (.inr k)
/-- the context of the lambda's body, entered at s -/
def lamCx1 (X : Cx) (A : Around) (outer : List Env) (s : Shared) (H : Hp) (scope : Scope) (a : Str) (f c' : Addr) : Cx where
  prog := X.prog
  w := X.w
  K := X.K
  mg := X.mg
  base := X.base
  A := A.deeper (lamEnv X scope s.heap.objs.size f c')
  N := X.N ++ [a]
  s_0 := s
  H_0 := H
  env := lamEnv X scope s.heap.objs.size f c'
  outer := outer
  stack := lamEnv X scope s.heap.objs.size f c' :: outer
  ex := []
  fn := fun _ => false
  calm := true
  pn := []
  xe := fun _ _ => False
section
variable {X : Cx} {pins : List (Addr × Obj)} {σ : L2.St} {H : Hp} {s : Shared} {a : Str}
theorem lam_start1 {A : Around} {outer : List Env} {scope : Scope} {f c' : Addr} {h₁ : Heap} {tk : Nat} {v : V} {u : Value} (I : Inv X pins σ H s) (L : LamS1 X.env.scope scope a) (e0 : Env0 X.prog X.w X.K X.mg X.base A outer s H) (hd : A.handled = none) (hr : RelV v u)
    (hns : h₁.Ns s.heap.objs.size fun y => ([(a, u)] : List (Str × Value)).reverse.lookup y) (kp : ∀ b o, s.heap.get? b = some o → h₁.get? b = some o) (hN : a ∉ X.N) :
    Inv (lamCx1 X A outer s H scope a f c') [] (σ ++ [some v]) H { s with heap := h₁, toks := tk } := by
  have hfree := L.has I.ok
  have cm : ∀ {y c}, (cloFrom X.env.cells scope.names []).lookup y = some c → X.env.cells.lookup y = some c := fun {y c} e => by
    rcases cloFrom_mem (PySem.mem_of_lookup e) with hm | ⟨h1, h2⟩
    · cases hm
    · obtain ⟨c1, hc⟩ := hfree _ h1 rfl
      have hc : X.env.cells.lookup y = some c1 := hc
      have e2 : c = c1 := by
        rw [h2, hc] <;> rfl
      rw [e2]
      exact hc
  have look : ∀ {y}, scope.names.lookup y = some .free → ∃ c, (cloFrom X.env.cells scope.names []).lookup y = some c := fun {y} hl => by
    have hy : (y, NameKind.free) ∈ scope.names := PySem.mem_of_lookup hl
    exact mem_lookup (cloFrom_has (cells := X.env.cells) (acc := []) hy)
  have cellK : ∀ {c : Addr} {v : Option Value}, s.heap.IsCell c v → h₁.IsCell c v := fun {c v} ⟨o, ho, hd⟩ => ⟨_, kp _ _ ho, hd⟩
  have noA : ∀ b : Addr, b ∉ (lamCx1 X A outer s H scope a f c').ex := fun b z => absurd (show b ∈ ([] : List Addr) from z) (by simp)
  refine ⟨⟨e0.mod, L.kind, rfl, rfl, Nat.le_refl _, fun y z c e1 e2 => I.ok.inj y z c (cm e1) (cm e2), fun y hy => ?_, fun y c z _ => ?_, fun _ => hd, Around.frames_deeper e0.frames, .inr ⟨rfl, rfl⟩, fun b z => absurd z (noA b), e0.bs, e0.bsz, fun b _ _ => noA b,
      fun b z => absurd z (noA b), e0.funs, e0.frf⟩,
    rfl, e0.bare, Un.kept kp, ⟨_, hns, fun i y v1 e1 e2 e3 => ?_⟩, fun y c e => ?_, e0.hok.fresh (Nat.le_refl _), fun y c e => ?_, fun q hq => absurd (show q ∈ ([] : List (Addr × Obj)) ++ [] from hq) (by simp), e0.hok.kept kp, ?_⟩
  · have hy : scope.names.lookup y = some .cell ∨ scope.names.lookup y = some .free := hy
    rcases hy with hy | hy
    · exact absurd rfl (L.nocell _ (PySem.mem_of_lookup hy))
    · exact look hy
  · have z : false = true := z
    cases z
  · have e3 : Vis scope y := e3
    have e1 : (X.N ++ [a])[i]? = some y := e1
    rcases e3 with k | k | k
    · have ya : y = a := L.own _ (PySem.mem_of_lookup k) rfl
      subst ya
      have hi : i = X.N.length := by
        by_cases h : i < X.N.length
        · rw [List.getElem?_append_left h] at e1
          exact absurd (List.mem_of_getElem? e1) hN
        · have := (List.getElem?_eq_some_iff.mp e1).1
          rw [List.length_append] at this
          simp at this
          omega
      subst hi
      rw [← I.len, List.getElem?_append_right (Nat.le_refl _), Nat.sub_self] at e2
      cases e2
      refine ⟨u, hr, .inl ⟨L.par, ?_⟩⟩
      show ([(y, u)] : List (Str × Value)).reverse.lookup y = some u
      simp
    · exact absurd rfl (L.nocell _ (PySem.mem_of_lookup k))
    · have ya : y ≠ a := fun z => by
        rw [z, L.par] at k
        cases k
      have hi : i < X.N.length := by
        by_cases h : i < X.N.length
        · exact h
        · exfalso
          rw [List.getElem?_append_right (by omega)] at e1
          cases hk : i - X.N.length with
          | zero => rw [hk] at e1; cases e1; exact ya rfl
          | succ n => rw [hk] at e1; cases e1
      rw [List.getElem?_append_left hi] at e1
      rw [List.getElem?_append_left (by rw [I.len]; exact hi)] at e2
      obtain ⟨m, hn, hl⟩ := I.loc
      have hvis : Vis X.env.scope y := (L.free _ (PySem.mem_of_lookup k) rfl).elim (fun k => .inr (.inl k)) (fun k => .inr (.inr k))
      obtain ⟨w', r, q⟩ := hl i y v1 e1 e2 hvis
      obtain ⟨c2, h2⟩ := look k
      refine ⟨w', r, .inr ⟨.inr k, c2, h2, ?_⟩⟩
      have c1 := cm h2
      rcases q with ⟨k', _⟩ | ⟨_, c3, e', z⟩
      · have k' : X.env.scope.names.lookup y = some .local := k'
        rcases L.free _ (PySem.mem_of_lookup k) rfl with k2 | k2 <;> rw [show X.env.scope.names.lookup y = _ from k2] at k' <;> cases k'
      · rw [c1] at e'
        cases e'
        exact cellK z
  · obtain ⟨w', z⟩ := I.cell y c (cm e)
    exact ⟨w', cellK z⟩
  · exact I.freeC y c (cm e)
  · rw [List.length_append, I.len]
    show _ = (X.N ++ [a]).length
    rw [List.length_append]
    rfl
/-- the call f(v), f the lambda, from within the def that made it -/
theorem lam_call1 {A : Around} {f c' : Addr} {pm ctv : Value} {params : Arguments} {body : Expr} {scope : Scope} {k : Nat} {tb : TE} {v : V} {u : Value} {Q : VK} (I : Inv X pins σ H s) (L : LamS1 X.env.scope scope a) (hN : a ∉ X.N)
    (hf : s.heap.get? f = some (PySem.W.kla_obj "<lambda>" (X.env.qual ++ "<lambda>") params body scope (cloFrom X.env.cells scope.names []) pm c' ctv)) (hco : H c' = some (CodeO c' (X.env.qual ++ "<lambda>")))
    (hbind : bindArgs (PySem.W.kla_fn "<lambda>" (X.env.qual ++ "<lambda>") params body scope (cloFrom X.env.cells scope.names []) pm (.ref c') ctv) ⟨[u], []⟩ = pure [(a, u)])
    (hr : Room (k + 1) A) (hfr : A.frames = X.A.frames)
    (hbody : ∀ (A : Around) (outer : List Env) (s : Shared) (H : Hp), Room k (A.deeper (lamEnv X scope s.heap.objs.size f c')) → PE (lamCx1 X A outer s H scope a f c') body tb)
    (rv : RelV v u) (ht : tb (σ ++ [some v]) H Q) :
    wpAny (model X.prog X.w) A (call (.ref f) [u]) (fun z s' => ∃ y H', Inv X pins σ H' s' ∧ Un (frs X.stack) [] H H' s.heap s'.heap ∧ RelV y z ∧ Q y H') (fun _ _ => False) s := by
  have e0 : Env0 X.prog X.w X.K X.mg X.base A X.stack s H := by
    have z := I.env0
    exact ⟨hfr.trans z.frames, z.mod, z.bs, z.bsz, z.funs, z.frf, z.hok, z.bare⟩
  obtain ⟨⟨oc, vs, t, hoc, hdc, hvc⟩, _, _⟩ := I.hok c' _ hco
  have rc : codeAny (model X.prog X.w) A (.call (.ref f) ⟨[u], []⟩) (CR C8.CX0 X.stack X.prog X.w H s Q C8.E0) s := by
    refine PySem.W.kla_callFunE hr.depth hf rfl L.co L.gen rfl ⟨c', oc, vs, t, rfl, hoc, hdc, hvc⟩ ?_
    rw [hbind]
    refine wpAny_pure (wpAny_newFunctionEnv (fun y hy => L.nocell y hy) (fun y hy => ?_) (fun h₁ hns hsb => ⟨I.nolimit.fresh _ hsb, ?_⟩) L.kind)
    · have : y = (a, u) := by simpa using hy
      rw [this]
      exact L.par
    · show codeAny _ _ (.expr body (lamEnv X scope s.heap.objs.size f c')) _ _
      have kp : ∀ b o, s.heap.get? b = some o → h₁.get? b = some o := fun b o e => hsb.extBut b o (Nat.ne_of_lt (Heap.lt_size e)) (Heap.get?_push_of_some _ e)
      have J : Inv (lamCx1 X A X.stack s H scope a f c') [] (σ ++ [some v]) H { s with heap := h₁, toks := s.toks + ([(a, u)] : List (Str × Value)).length } :=
        lam_start1 I L e0 hr.hd rv hns kp hN
      refine PySem.W.kla_codeExpr (wpAny_mono ((hbody A X.stack s H (hr.deeper _)).run [] _ _ H Q J ht) (fun v s' hq => ?_) fun e s' hq => hq.elim)
      obtain ⟨w', H', J', rv, q⟩ := hq
      exact ⟨w', H', J'.os, J'.bare, J'.base, J'.hok, rv, q⟩
  refine wpAny_call (codeAny_mono rc fun r s' hq => ?_)
  cases r with
  | error e => exact (show False from hq).elim
  | ok fl =>
    cases fl with
    | ret z =>
      have hq : CE X.stack X.prog X.w H s Q z s' := hq
      obtain ⟨y, H', os, bare, un, hok, ry, q⟩ := hq
      refine ⟨y, H', ?_, un, ry, q⟩
      obtain ⟨hh, g, d, t, os'⟩ := s'
      obtain rfl : os' = s.os := os
      exact I.call (h' := hh) (g' := g) (d' := d) (t' := t) (ch := []) un hok bare (fun b z => absurd z (by simp))
    | next => exact False.elim hq
    | brk => exact False.elim hq
    | cont => exact False.elim hq
end
end LamY

set_option Elab.async false
set_option linter.all false
set_option maxRecDepth 100000
set_option maxHeartbeats 2000000
/-! min(xs, key=lambda ..), sorted(range(n), key=lambda ..). -/
namespace LamY
open PySem PySem.Spec PyProof.Rows L2 LamX
/-- without the list at l -/
def dropH (H : Hp) (l : Addr) : Hp := fun b => if b = l then none else H b
theorem dropH_ne {H : Hp} {l b : Addr} (h : b ≠ l) : dropH H l b = H b := if_neg h
theorem dropH_at {H : Hp} {l : Addr} : dropH H l l = none := if_pos rfl
theorem dropH_none {H : Hp} {l b : Addr} (h : H b = none) : dropH H l b = none := by
  by_cases e : b = l
  · rw [e]; exact dropH_at
  · rw [dropH_ne e]; exact h
theorem dropH_sub {H : Hp} {l b : Addr} {o : HO} (h : dropH H l b = some o) : H b = some o ∧ b ≠ l := by
  by_cases e : b = l
  · rw [e, dropH_at] at h; cases h
  · rw [dropH_ne e] at h; exact ⟨h, e⟩
theorem hok_drop {P : Program} {w : World} {H : Hp} {h : Heap} {l : Addr} (hl : H l = none ∨ ∃ xs, H l = some (.lst xs)) (k : HOk P w H h) : HOk P w (dropH H l) h := fun a o e => by
  obtain ⟨e, _⟩ := dropH_sub e
  have ne : ∀ {b : Addr} {u : HO}, H b = some u → (∀ xs, u ≠ .lst xs) → b ≠ l := fun {b u} q n z => by
    rw [z] at q
    rcases hl with z2 | ⟨xs, z2⟩
    · rw [z2] at q; cases q
    · rw [z2] at q; exact n xs (Option.some.inj q).symm
  exact (k a o e).stay (fun _ _ _ q => q) (fun b q => by rw [dropH_ne (ne q (fun xs z => by cases z))]; exact q) fun b xs q => by rw [dropH_ne (ne q (fun xs z => by cases z))]; exact q
section
variable {X : Cx} {pins : List (Addr × Obj)} {σ : L2.St} {H : Hp} {s : Shared} {a : Str}
theorem lam_startD {A : Around} {outer : List Env} {scope : Scope} {f c' l : Addr} {h₁ : Heap} {tk : Nat} {v : V} {u : Value} (I : Inv X pins σ H s) (L : LamS1 X.env.scope scope a) (e0 : Env0 X.prog X.w X.K X.mg X.base A outer s (dropH H l)) (hd : A.handled = none) (hr : RelV v u)
    (hns : h₁.Ns s.heap.objs.size fun y => ([(a, u)] : List (Str × Value)).reverse.lookup y) (kp : ∀ b o, s.heap.get? b = some o → h₁.get? b = some o) (hN : a ∉ X.N) :
    Inv (lamCx1 X A outer s (dropH H l) scope a f c') [] (σ ++ [some v]) (dropH H l) { s with heap := h₁, toks := tk } := by
  have hfree := L.has I.ok
  have cm : ∀ {y c}, (cloFrom X.env.cells scope.names []).lookup y = some c → X.env.cells.lookup y = some c := fun {y c} e => by
    rcases cloFrom_mem (PySem.mem_of_lookup e) with hm | ⟨h1, h2⟩
    · cases hm
    · obtain ⟨c1, hc⟩ := hfree _ h1 rfl
      have hc : X.env.cells.lookup y = some c1 := hc
      have e2 : c = c1 := by
        rw [h2, hc] <;> rfl
      rw [e2]
      exact hc
  have look : ∀ {y}, scope.names.lookup y = some .free → ∃ c, (cloFrom X.env.cells scope.names []).lookup y = some c := fun {y} hl => by
    have hy : (y, NameKind.free) ∈ scope.names := PySem.mem_of_lookup hl
    exact mem_lookup (cloFrom_has (cells := X.env.cells) (acc := []) hy)
  have cellK : ∀ {c : Addr} {v : Option Value}, s.heap.IsCell c v → h₁.IsCell c v := fun {c v} ⟨o, ho, hd⟩ => ⟨_, kp _ _ ho, hd⟩
  have noA : ∀ b : Addr, b ∉ (lamCx1 X A outer s (dropH H l) scope a f c').ex := fun b z => absurd (show b ∈ ([] : List Addr) from z) (by simp)
  refine ⟨⟨e0.mod, L.kind, rfl, rfl, Nat.le_refl _, fun y z c e1 e2 => I.ok.inj y z c (cm e1) (cm e2), fun y hy => ?_, fun y c z _ => ?_, fun _ => hd, Around.frames_deeper e0.frames, .inr ⟨rfl, rfl⟩, fun b z => absurd z (noA b), e0.bs, e0.bsz, fun b _ _ => noA b,
      fun b z => absurd z (noA b), e0.funs, e0.frf⟩,
    rfl, e0.bare, Un.kept kp, ⟨_, hns, fun i y v1 e1 e2 e3 => ?_⟩, fun y c e => ?_, e0.hok.fresh (Nat.le_refl _), fun y c e => ?_, fun q hq => absurd (show q ∈ ([] : List (Addr × Obj)) ++ [] from hq) (by simp), e0.hok.kept kp, ?_⟩
  · have hy : scope.names.lookup y = some .cell ∨ scope.names.lookup y = some .free := hy
    rcases hy with hy | hy
    · exact absurd rfl (L.nocell _ (PySem.mem_of_lookup hy))
    · exact look hy
  · have z : false = true := z
    cases z
  · have e3 : Vis scope y := e3
    have e1 : (X.N ++ [a])[i]? = some y := e1
    rcases e3 with k | k | k
    · have ya : y = a := L.own _ (PySem.mem_of_lookup k) rfl
      subst ya
      have hi : i = X.N.length := by
        by_cases h : i < X.N.length
        · rw [List.getElem?_append_left h] at e1
          exact absurd (List.mem_of_getElem? e1) hN
        · have := (List.getElem?_eq_some_iff.mp e1).1
          rw [List.length_append] at this
          simp at this
          omega
      subst hi
      rw [← I.len, List.getElem?_append_right (Nat.le_refl _), Nat.sub_self] at e2
      cases e2
      refine ⟨u, hr, .inl ⟨L.par, ?_⟩⟩
      show ([(y, u)] : List (Str × Value)).reverse.lookup y = some u
      simp
    · exact absurd rfl (L.nocell _ (PySem.mem_of_lookup k))
    · have ya : y ≠ a := fun z => by
        rw [z, L.par] at k
        cases k
      have hi : i < X.N.length := by
        by_cases h : i < X.N.length
        · exact h
        · exfalso
          rw [List.getElem?_append_right (by omega)] at e1
          cases hk : i - X.N.length with
          | zero => rw [hk] at e1; cases e1; exact ya rfl
          | succ n => rw [hk] at e1; cases e1
      rw [List.getElem?_append_left hi] at e1
      rw [List.getElem?_append_left (by rw [I.len]; exact hi)] at e2
      obtain ⟨m, hn, hl⟩ := I.loc
      have hvis : Vis X.env.scope y := (L.free _ (PySem.mem_of_lookup k) rfl).elim (fun k => .inr (.inl k)) (fun k => .inr (.inr k))
      obtain ⟨w', r, q⟩ := hl i y v1 e1 e2 hvis
      obtain ⟨c2, h2⟩ := look k
      refine ⟨w', r, .inr ⟨.inr k, c2, h2, ?_⟩⟩
      have c1 := cm h2
      rcases q with ⟨k', _⟩ | ⟨_, c3, e', z⟩
      · have k' : X.env.scope.names.lookup y = some .local := k'
        rcases L.free _ (PySem.mem_of_lookup k) rfl with k2 | k2 <;> rw [show X.env.scope.names.lookup y = _ from k2] at k' <;> cases k'
      · rw [c1] at e'
        cases e'
        exact cellK z
  · obtain ⟨w', z⟩ := I.cell y c (cm e)
    exact ⟨w', cellK z⟩
  · exact dropH_none (I.freeC y c (cm e))
  · rw [List.length_append, I.len]
    show _ = (X.N ++ [a]).length
    rw [List.length_append]
    rfl
/-- the call f(v), f the lambda, from within the def that made it; the list at l is not looked at -/
theorem lam_callD {A : Around} {f c' l : Addr} {pm ctv : Value} {params : Arguments} {body : Expr} {scope : Scope} {k : Nat} {tb : TE} {v : V} {u : Value} {y : V} (hl : H l = none ∨ ∃ xs, H l = some (.lst xs)) (I : Inv X pins σ H s) (L : LamS1 X.env.scope scope a) (hN : a ∉ X.N)
    (hf : s.heap.get? f = some (PySem.W.kla_obj "<lambda>" (X.env.qual ++ "<lambda>") params body scope (cloFrom X.env.cells scope.names []) pm c' ctv)) (hco : H c' = some (CodeO c' (X.env.qual ++ "<lambda>")))
    (hbind : bindArgs (PySem.W.kla_fn "<lambda>" (X.env.qual ++ "<lambda>") params body scope (cloFrom X.env.cells scope.names []) pm (.ref c') ctv) ⟨[u], []⟩ = pure [(a, u)])
    (hr : Room (k + 1) A) (hfr : A.frames = X.A.frames)
    (hbody : ∀ (A : Around) (outer : List Env) (s : Shared) (H : Hp), Room k (A.deeper (lamEnv X scope s.heap.objs.size f c')) → PE (lamCx1 X A outer s H scope a f c') body tb)
    (rv : RelV v u) (ht : tb (σ ++ [some v]) (dropH H l) fun y' H' => y' = y ∧ H' = dropH H l) :
    wpAny (model X.prog X.w) A (call (.ref f) [u]) (fun z s' => Inv X pins σ H s' ∧ RelV y z ∧ s'.gens = s'.gens ∧ ∀ b o, s.heap.get? b = some o → (H b = none ∨ b = l) → b ∉ frs X.stack → s'.heap.get? b = some o) (fun _ _ => False) s := by
  have lst : l ∉ frs X.stack ∨ H l = none := by
    rcases hl with z | ⟨xs, z⟩
    · exact .inr z
    · refine .inl fun q => ?_
      rw [I.stkFree l q] at z
      cases z
  have hc2 : dropH H l c' = some (CodeO c' (X.env.qual ++ "<lambda>")) := by
    rw [dropH_ne]
    · exact hco
    · intro z
      rw [z] at hco
      rcases hl with z | ⟨xs, z⟩
      · rw [z] at hco; cases hco
      · rw [z] at hco
        unfold CodeO at hco
        cases hco
  have e0 : Env0 X.prog X.w X.K X.mg X.base A X.stack s (dropH H l) := by
    have z := I.env0
    exact ⟨hfr.trans z.frames, z.mod, fun b o e => ⟨(z.bs b o e).1, dropH_none (z.bs b o e).2⟩, z.bsz, z.funs, fun b hb => dropH_none (z.frf b hb), hok_drop hl z.hok, z.bare⟩
  obtain ⟨⟨oc, vs, t, hoc, hdc, hvc⟩, _, _⟩ := I.hok c' _ hco
  have rc : codeAny (model X.prog X.w) A (.call (.ref f) ⟨[u], []⟩) (CR C8.CX0 X.stack X.prog X.w (dropH H l) s (fun y' H' => y' = y ∧ H' = dropH H l) C8.E0) s := by
    refine PySem.W.kla_callFunE hr.depth hf rfl L.co L.gen rfl ⟨c', oc, vs, t, rfl, hoc, hdc, hvc⟩ ?_
    rw [hbind]
    refine wpAny_pure (wpAny_newFunctionEnv (fun y hy => L.nocell y hy) (fun y hy => ?_) (fun h₁ hns hsb => ⟨I.nolimit.fresh _ hsb, ?_⟩) L.kind)
    · have : y = (a, u) := by simpa using hy
      rw [this]
      exact L.par
    · show codeAny _ _ (.expr body (lamEnv X scope s.heap.objs.size f c')) _ _
      have kp : ∀ b o, s.heap.get? b = some o → h₁.get? b = some o := fun b o e => hsb.extBut b o (Nat.ne_of_lt (Heap.lt_size e)) (Heap.get?_push_of_some _ e)
      have J : Inv (lamCx1 X A X.stack s (dropH H l) scope a f c') [] (σ ++ [some v]) (dropH H l) { s with heap := h₁, toks := s.toks + ([(a, u)] : List (Str × Value)).length } :=
        lam_startD I L e0 hr.hd rv hns kp hN
      refine PySem.W.kla_codeExpr (wpAny_mono ((hbody A X.stack s (dropH H l) (hr.deeper _)).run [] _ _ (dropH H l) _ J ht) (fun v s' hq => ?_) fun e s' hq => hq.elim)
      obtain ⟨w', H', J', rv, q⟩ := hq
      exact ⟨w', H', J'.os, J'.bare, J'.base, J'.hok, rv, q⟩
  refine wpAny_call (codeAny_mono rc fun r s' hq => ?_)
  cases r with
  | error e => exact (show False from hq).elim
  | ok fl =>
    cases fl with
    | ret z =>
      have hq : CE X.stack X.prog X.w (dropH H l) s (fun y' H' => y' = y ∧ H' = dropH H l) z s' := hq
      obtain ⟨y', H', os, bare, un, hok, ry, q1, q2⟩ := hq
      subst q1 q2
      have kept : ∀ b o, s.heap.get? b = some o → (H b = none ∨ b = l) → b ∉ frs X.stack → s'.heap.get? b = some o := fun b o e hb hf => un.keep b o e (by
        rcases hb with z | z
        · exact dropH_none z
        · rw [z]; exact dropH_at) hf (by simp)
      refine ⟨?_, ry, rfl, kept⟩
      have hokH : HOk X.prog X.w H s'.heap := fun b u e => by
        by_cases hb : b = l
        · subst hb
          rcases hl with z | ⟨xs, z⟩
          · rw [z] at e; cases e
          · rw [z] at e
            cases e
            obtain ⟨h1, its, n, h2, h3⟩ := I.hok b _ z
            refine ⟨h1, its, n, h2, kept b _ h3 (.inr rfl) ?_⟩
            intro q
            rw [I.stkFree b q] at z
            cases z
        · refine (hok b u (by rw [dropH_ne hb]; exact e)).stay (fun _ _ _ q => q) (fun d q => (dropH_sub q).1) fun d xs q => (dropH_sub q).1
      obtain ⟨hh, g, d, t, os'⟩ := s'
      obtain rfl : os' = s.os := os
      refine I.call (h' := hh) (g' := g) (d' := d) (t' := t) (ch := []) ⟨fun b o e n f x => un.keep b o e (dropH_none n) f x, fun b o e n f x => un.slot b o e (dropH_none n) f x, fun b o e n x => n, un.there, fun b xs q => q, fun b o u q => q, fun b ps q => ⟨#[], by rw [q]; simp⟩⟩ hokH bare (fun b z => absurd z (by simp))
    | next => exact False.elim hq
    | brk => exact False.elim hq
    | cont => exact False.elim hq
end
end LamY

set_option Elab.async false
set_option linter.all false
set_option maxRecDepth 100000
set_option maxHeartbeats 2000000
namespace LamY
open PySem PySem.W PySem.Spec PyProof.Rows L2 LamX
def tMinK (T : List (Addr × Str)) (ta : TA) (tb : TE) : TE := fun σ H Q => ta σ H fun xs H1 => ∃ (a : Addr) (ns : List Int) (kf : Int → Int), xs = [.ref a] ∧ H1 a = some (.lst (ns.map V.int)) ∧ Tabs T H1 ∧
  ∀ H2, ExtN H1 H2 → Tabs T H2 → (∀ n ∈ ns, tb (σ ++ [some (.int n)]) (dropH H2 a) fun y H' => y = .int (kf n) ∧ H' = dropH H2 a) ∧ (ns = [] → Q .non H2) ∧ (∀ m ∈ ns, (∀ n ∈ ns, kf m ≤ kf n) → Q (.int m) H2)
theorem moved_inv {X : Cx} {pins : List (Addr × Obj)} {σ : L2.St} {H : Hp} {s s' : Shared} {ch : List Addr} (I : Inv X pins σ H s) (m : Moved ch (fun a b => b = a) s s') (hf : ∀ b ∈ ch, FpOk X pins H b) : Inv X pins σ H s' := by
  obtain ⟨h', g, d, t, os⟩ := s'
  obtain ⟨m1, m2, m3, m4, m5⟩ := m
  have m2 : g = s.gens := m2
  have m3 : d = s.drawn := m3
  have m4 : os = s.os := m4
  subst m2 m3 m4
  exact I.turnedL (h' := h') (t' := t) m1 hf
section
variable {X : Cx}
theorem pe_minKey {T : List (Addr × Str)} {c P : Addr} {a : Str} {k : Nat} {params : Arguments} {body : Expr} {scope : Scope} {ta : TA} {tb : TE} {e : Expr} {lpos p pos kp1 kp2 dpos : Pos} {kk : Nat} (hc : X.calm = true) (hg : Gl X "min") (hm : X.mg "min" = none) (ha : PA X [e] ta)
    (TB : TabB X.base X.mg c P) (hcode : X.env.code = .ref c) (hmT : (P, X.env.qual ++ "<lambda>") ∈ T) (hu : ∀ p ∈ T, p.1 = P → p.2 = X.env.qual ++ "<lambda>") (hr : Room (k + 2) X.A) (L : LamS1 X.env.scope scope a) (hN : a ∉ X.N) (hdef : defaultsOf params X.env = ([], []))
    (hbind : ∀ (q : Str) (cl : List (Str × Addr)) (pm cv ctv u : Value), bindArgs (PySem.W.kla_fn "<lambda>" q params body scope cl pm cv ctv) ⟨[u], []⟩ = pure [(a, u)])
    (hbody : ∀ (A : Around) (outer : List Env) (s : Shared) (H : Hp) (f c' : Addr), Room k (A.deeper (lamEnv X scope s.heap.objs.size f c')) → PE (lamCx1 X A outer s H scope a f c') body tb)
    (he : backTo pos (starEach [e] X.env) = (false, eval e X.env) :: backTo pos (starEach [] X.env) := by rfl) (hpl : (backTo pos (starEach [e] X.env)).any (·.1) = false := by rfl) :
    PE X (.Call (.Name "min" p) [e] [⟨some "key", .Lambda params body scope lpos, kp1⟩, ⟨some "default", .Constant .none kk dpos, kp2⟩] pos) (tMinK T ta tb) := by
  refine ⟨fun pins s σ H Q I h => ?_⟩
  have hX : ∀ (e : Value) (s : Shared), (fun _ _ => False : Value → Shared → Prop) e s → X.xe e s := fun _ _ z => z.elim
  refine wpAny_Call_Name_kw (ld_blt I hg hm (show bootBuiltins "min" = some (.builtin "min") from Fn.bt_min) ?_)
  refine PyProof.Rows.callWith_kw (thn (ha.run pos pins s σ H _ I h) fun us s1 ⟨xs, H1, I1, r1, q1⟩ => ?_) he hpl (by rfl) (by rfl)
  obtain ⟨al, ns, kf, rfl, hal, hT, q⟩ := q1
  obtain rfl := Vals.ref1 r1
  show wpAny _ _ (evalAll ((do let v ← eval (.Lambda params body scope lpos) X.env; standAt pos; pure v) :: (do let v ← eval (.Constant .none kk dpos) X.env; standAt pos; pure v) :: [])) _ _ s1
  refine wpAny_evalAll_cons (wpAny_bind (lam_make2 I1 TB hcode hmT hu hT hdef (L.has I1.ok) fun f c' pm ctv H2 s2 I2 eN T2 hf hfn hfr hco => wpAny_bind (wpAny_standAt (wpAny_pure ?_))))
  refine wpAny_evalAll_cons (wpAny_bind (Constant_none (wpAny_bind (wpAny_standAt (wpAny_pure ?_)))))
  refine wpAny_evalAll_nil ?_
  show wpAny _ _ (call (.builtin "min") [.ref al] [(Str.ofString "key", .ref f), (Str.ofString "default", .none)]) _ _ s2
  obtain ⟨qb, q0, qm⟩ := q H2 eN T2
  have hal3 : H2 al = some (.lst (ns.map V.int)) := eN _ _ hal (fun ps z => by cases z)
  have hf3 := hf
  obtain ⟨hz, its, nn, rv, hl⟩ := I2.hok al _ hal3
  have hIs : s2.heap.IsList al its.toArray := ⟨_, hl, rfl, nn, rfl⟩
  have hh : X.A.in1.handled = none := I2.ok.hd hc
  have fresh : ∀ {b : Addr} {o : Obj}, s2.heap.get? b = some o → b < s2.heap.objs.size := fun e => Heap.lt_size e
  refine call_min_walkKD (iter_listW hh hIs fun s4 hs4 W st0 hfp hnew hkeep => ?_)
  have I4 : Inv X pins σ H2 s4 := by
    rw [hs4]
    exact I2.kept (t' := s2.toks) fun b o e => Heap.get?_push_of_some _ e
  have hsz4 : s4.heap.objs.size = s2.heap.objs.size + 1 := by rw [hs4]; exact Heap.size_push _ _
  have fp1 : FpOk X pins H2 s2.heap.objs.size := I2.fpOk (Nat.le_refl _) (I2.hok.fresh (Nat.le_refl _))
  have fp2 : FpOk X pins H2 s4.heap.objs.size := I4.fpOk (Nat.le_refl _) (I4.hok.fresh (Nat.le_refl _))
  have fpa : ∀ b ∈ [s4.heap.objs.size, s2.heap.objs.size], FpOk X pins H2 b := fun b hb => by
    rcases List.mem_cons.mp hb with rfl | hb
    · exact fp2
    · rcases List.mem_cons.mp hb with rfl | hb
      · exact fp1
      · cases hb
  have nf : f ∉ [s4.heap.objs.size, s2.heap.objs.size] := fun hb => by
    have h1 := fresh hf3
    rcases List.mem_cons.mp hb with e | hb
    · rw [e, hsz4] at h1
      exact Nat.lt_irrefl _ (Nat.lt_of_succ_lt h1)
    · rcases List.mem_cons.mp hb with e | hb
      · rw [e] at h1
        exact Nat.lt_irrefl _ h1
      · cases hb
  have nstk : ∀ b ∈ [s4.heap.objs.size, s2.heap.objs.size], b ∉ frs X.stack := fun b hb z => by
    have q1 := fpa b hb
    rcases List.mem_cons.mp (I2.stkSub _ z) with e | e
    · exact q1.2.1 e
    · exact q1.2.2.1 e
  have rvn : ∀ i v, its.toArray[i]? = some v → ∃ t, v = .int (ns.getD i 0) t ∧ ns.getD i 0 ∈ ns := fun i v hv => by
    rw [List.getElem?_toArray] at hv
    cases q : (ns.map V.int)[i]? with
    | none =>
      have := rv.none_of q
      rw [this] at hv
      cases hv
    | some x =>
      obtain ⟨u, h1, h2⟩ := rv.get q
      rw [h1] at hv
      cases hv
      rw [List.getElem?_map] at q
      cases q2 : ns[i]? with
      | none => rw [q2] at q; cases q
      | some n =>
        rw [q2] at q
        cases q
        obtain ⟨t, rfl⟩ := h2
        rw [List.getD_eq_getElem?_getD, q2]
        exact ⟨t, rfl, List.mem_of_getElem? q2⟩
  refine ⟨_, _, _, _, _, _, _, fun s' => Inv X pins σ H2 s' ∧ s'.heap.get? f = some (PySem.W.kla_obj "<lambda>" (X.env.qual ++ "<lambda>") params body scope (cloFrom X.env.cells scope.names []) pm c' ctv),
    fun i k _ => ∃ t, k = .int (kf (ns.getD i 0)) t, fun i j => decide (kf (ns.getD i 0) < kf (ns.getD j 0)), rfl, W, st0, hfp, ?_, ⟨I4, hkeep _ _ hf3⟩, ?_, ?_⟩
  · refine ⟨fun s s' ⟨J, jf⟩ m => ⟨moved_inv J m fpa, m.heap _ _ nf jf⟩, fun i k s s' v _ => v, fun i v s o Q E hi hv ⟨J, jf⟩ st hS hQ => ?_, fun i j ki kj s Q E _ ⟨t1, e1⟩ ⟨t2, e2⟩ hQ => ?_⟩
    · obtain ⟨t, rfl, hmem⟩ := rvn i v hv
      refine wpAny_mono (lam_callD (l := al) (A := X.A.in1) (.inr ⟨_, hal3⟩) J L hN jf ?_ (hbind _ _ _ _ _ _) hr.in1 rfl (fun A outer s H hr2 => hbody A outer s H f c' hr2) (v := .int (ns.getD i 0)) ⟨t, rfl⟩ (qb _ hmem)) (fun z s' hz => ?_) fun _ _ z => z.elim
      · exact (hco : _)
      · obtain ⟨I5, ⟨t5, rfl⟩, _, kp⟩ := hz
        have lf : f ∉ frs X.stack := hfr
        have nI : H2 s2.heap.objs.size = none := fp1.1
        refine hQ _ s' ⟨I5, kp f _ jf (.inl ?_) hfr⟩ ⟨st.1.at fun o e => kp _ o e (.inl nI) (nstk _ (by simp)), st.2.at fun o e => kp _ o e (.inr rfl) (fun z => ?_)⟩ (kp _ o hS (.inl fp2.1) (nstk _ (by simp))) ⟨t5, rfl⟩ fun j k' v => v
        · exact hfn
        · have := I2.stkFree _ z
          rw [hal3] at this
          cases this
    · subst e1 e2
      exact CmpOf.ints_lt (prog := X.prog) (w := X.w) (A := X.A.in1) (P := fun i v => ∃ t, v = .int (kf (ns.getD i 0)) t) (fun i => kf (ns.getD i 0)) (fun i v h => h) i j _ _ s Q E ⟨t1, rfl⟩ ⟨t2, rfl⟩ hQ
  · intro hn s' ⟨J, _⟩
    have : ns = [] := by
      have h1 := rv.length
      have : its.length = 0 := by simpa using hn
      rw [List.length_map, this] at h1
      exact List.length_eq_zero_iff.mp h1
    exact ⟨.non, H2, J, rfl, q0 this⟩
  · intro hn v s' hv ⟨J, _⟩
    obtain ⟨t, rfl, hmem⟩ := rvn _ _ hv
    refine ⟨.int _, H2, J, ⟨t, rfl⟩, qm _ hmem fun n hn' => ?_⟩
    obtain ⟨b1, b2⟩ := argBest_lt (fun i => kf (ns.getD i 0)) (its.toArray.size - 1)
    obtain ⟨j, hj, ej⟩ := List.getElem_of_mem hn'
    have h1 := rv.length
    rw [List.length_map] at h1
    have := b2 j (by rw [List.size_toArray]; omega)
    rw [show ns.getD j 0 = n from by rw [List.getD_eq_getElem?_getD, List.getElem?_eq_getElem hj]; exact ej] at this
    exact this
end
end LamY

set_option Elab.async false
set_option linter.all false
set_option maxRecDepth 100000
set_option maxHeartbeats 4000000
namespace LamY
open PySem PySem.W PySem.Spec PyProof.Rows L2 LamX
section
variable {prog : Program} {w : World} {A : Around} {E : Value → Shared → Prop} {s : Shared} {a kS : Addr} {vs : List Value} {e1 : Nat} {P : PySem.Fin → Shared → Prop} {kz : List Int} {J : Shared → Prop}
theorem alike_kz (kz : List Int) : AllAlike (kz.map PyData.int) := AllAlike.of fun b b' => by unfold alike; rfl
theorem sortable_kz (kz : List Int) : Sortable (kz.map PyData.int) := Sortable.others (enc := PyData.int) fun b => ⟨(fun z => by cases z), (fun xs z => by cases z)⟩
theorem readsInt {h : Heap} (n : Int) (t : Tok) : Reads h (.int n t) (.int n) [] := .int n t
theorem each_ints {h : Heap} : ∀ {L : List Value} {kz : List Int}, EachIs (fun v (k : Int) => ∃ t, v = Value.int k t) L kz → EachIs (fun v d => ∃ as, Reads h v d as) L (kz.map PyData.int)
  | _, _, .nil => EachIs.nil
  | _, _, .cons q t => by
    obtain ⟨t0, rfl⟩ := q
    exact EachIs.cons ⟨[], readsInt _ _⟩ (each_ints t)
theorem keyJ_rest {f : Value} (hka : kS ≠ a) (jc : ∀ (s : Shared) (h' : Heap) (tk : Nat), J s → (∀ b o, b ≠ kS → b ≠ a → s.heap.get? b = some o → h'.get? b = some o) → J { s with heap := h', toks := tk })
    (hJ : J s) (nk : s.heap.get? kS = some (seqObj "list" #[] 0)) (na : s.heap.get? a = some (seqObj "list" #[] e1)) (hlen : kz.length = vs.length) (hZ : vs.length ≤ sizeLine) (hu : A.units + 1 < cLine)
    (turn : ∀ (i : Nat) (v : Value) (k : Int), vs[i]? = some v → kz[i]? = some k → ∀ (s : Shared) (o1 o2 : Obj), J s → s.heap.get? kS = some o1 → s.heap.get? a = some o2 →
      wpAny (model prog w) A (call f [v]) (fun z s' => J s' ∧ (∃ t, z = .int k t) ∧ s'.heap.get? kS = some o1 ∧ s'.heap.get? a = some o2) (fun _ _ => False) s)
    (h : ∀ s' out c, J s' → s'.heap.get? a = some (seqObj "list" (List.toArray out) c) → KeyedOut false (kz.map PyData.int) vs out → P (.done (.ret .none)) s') :
    wpAny (model prog w) A (ksk_rest a f false vs.toArray e1 (.ref kS)) P E s := by
  unfold ksk_rest
  refine wpAny_bind (wpAny_rule ?_)
  first
    | rw [List.forIn_toArray]
    | (rw [← Array.forIn_toList]; simp only [List.toList_toArray])
    | rw [← Array.forIn_toList]
  refine wpAny_bind (ksk_fold (fun i s' => ∃ kA e, J s' ∧ s'.heap.get? kS = some (seqObj "list" kA e) ∧ s'.heap.get? a = some (seqObj "list" #[] e1) ∧ EachIs (fun v (k : Int) => ∃ t, v = Value.int k t) kA.toList (kz.take i)) vs 0 s
    ⟨#[], 0, hJ, nk, na, by rw [List.take_zero]; exact EachIs.nil⟩ ?step ?done)
  case step =>
    rintro j x s' hx ⟨kA, e, hJ', nk', na', hk⟩
    simp only [Nat.zero_add] at hk ⊢
    have hj : j < vs.length := (List.getElem?_eq_some_iff.mp hx).1
    obtain ⟨k, hkj⟩ : ∃ k, kz[j]? = some k := ⟨_, List.getElem?_eq_getElem (by omega)⟩
    have hz : kA.size ≤ vs.length := by
      have h1 := hk.length
      rw [Array.length_toList, List.length_take] at h1
      omega
    refine wpAny_bind (wpAny_attempt (wpAny_mono (turn j x k hx hkj s' _ _ hJ' nk' na') (fun v s2 he => ?_) fun _ _ hF => hF.elim))
    obtain ⟨J2, ⟨t, rfl⟩, nk2, na2⟩ := he
    try dsimp only
    have s1 := Heap.SameBut.update s2.heap kS (Obj.mapSeq (·.push (Value.int k t)))
    obtain ⟨c2, hc2⟩ : ∃ c2, (s2.heap.update kS (Obj.mapSeq (·.push (Value.int k t)))).get? kS = some (seqObj "list" (kA.push (Value.int k t)) c2) := ⟨_, get?_update_seq nk2 (·.push (Value.int k t))⟩
    have ek : kz.take (j + 1) = kz.take j ++ [k] := by rw [List.take_add_one, hkj]; simp
    have ea : (kA.push (Value.int k t)).toList = kA.toList ++ [Value.int k t] := by simp
    refine wpAny_bind (listUpdate_at nk2 rfl ?_ (Nat.le_trans hz hZ) (Nat.le_trans (Nat.le_of_eq (Array.size_push ..)) (Nat.succ_le_succ (Nat.le_trans hz hZ))))
    refine wpAny_pure ⟨rfl, kA.push (Value.int k t), c2, jc s2 _ s2.toks J2 (fun b o hb hb2 e => (s1.2 b hb).trans e), hc2, (s1.2 a hka.symm).trans na2, ?_⟩
    rw [ea, ek]
    exact each_snoc (R := fun v (k : Int) => ∃ t, v = Value.int k t) ⟨t, rfl⟩ hk
  case done =>
    rintro s' ⟨kA, e, J', nk', na', hk⟩
    have hkz : EachIs (fun v (k : Int) => ∃ t, v = Value.int k t) kA.toList kz := by
      have e3 : kz.take (0 + vs.length) = kz := List.take_of_length_le (by omega)
      rw [e3] at hk
      exact hk
    have hk' : EachIs (fun v d => ∃ as, Reads s'.heap v d as) kA.toList (kz.map PyData.int) := by
      exact each_ints hkz
    have hsz : kA.size = vs.length := by
      have h1 := hkz.length
      rw [Array.length_toList] at h1
      omega
    try dsimp only
    refine wpAny_bind (listItems_at nk' rfl ?_)
    obtain ⟨G, g1, g2⟩ := restrict s'.heap fun b => decide (b ≠ kS ∧ b ≠ a)
    have kp : KeepsBut a G s'.heap := fun b o hb q => by
      by_cases z : b = kS
      · rw [g2 b (by simp [z])] at q; cases q
      · rw [g1 b (by simp [z, hb])] at q
        exact q
    have hkS : G.get? kS = none := g2 kS (by simp)
    refine keyH_end (κ := dataKind s'.heap (kz.map PyData.int)) (h₁ := G) kp hkS nk' na' hka (SortsAt.data (s := s') hk' (alike_kz kz) (sortable_kz kz) (fun d hd => ?_)) hsz hZ fun h3 tk3 c k3 n3 => h _ _ c (jc s' h3 tk3 J' fun b o hb hb2 q => k3 b o hb2 (by rw [g1 b (by simp [hb, hb2])]; exact q)) n3 ⟨s'.heap, kA.toList, alike_kz kz, rfl, hk'⟩
    obtain ⟨n, _, rfl⟩ := List.mem_map.mp hd
    show A.units + (PyData.int n).depth < cLine
    have : (PyData.int n).depth = 0 := by simp [PyData.depth]
    omega
end
end LamY
namespace LamY
open PySem PySem.W PySem.Spec PyProof.Rows L2 LamX
def tSortK (T : List (Addr × Str)) (te tb : TE) : TE := fun σ H Q => te σ H fun x H1 => ∃ (n : Nat) (kf : Int → Int), x = .int n ∧ n ≤ 1000 ∧ Tabs T H1 ∧
  ∀ H2, ExtN H1 H2 → Tabs T H2 → (∀ i : Nat, i < n → tb (σ ++ [some (.int i)]) H2 fun y H' => y = .int (kf i) ∧ H' = H2) ∧
    ∀ p, H2 p = none → Q (.ref p) (upd H2 p (.lst ((((List.range n).map fun (i : Nat) => (i : Int)).mergeSort fun a b => decide (kf a ≤ kf b)).map V.int)))
theorem inv_track {X : Cx} {pins : List (Addr × Obj)} {σ : L2.St} {H : Hp} {s : Shared} {a : Addr} {o : HO} (I : Inv X pins σ H s) (hf : FpOk X pins H a) (new : ObjOk X.prog X.w (upd H a o) s.heap a o) : Inv X pins σ (upd H a o) s := by
  have nit : ∀ b u, H b = some u → b ≠ a := fun b u e z => by rw [z, hf.1] at e; cases e
  refine I.step (h' := s.heap) (g' := s.gens) (d' := s.drawn) (t' := s.toks) (ch := [a]) (fun b hb => ?_) (fun b o _ _ hc e _ => e) (fun b o _ _ hc e _ => ⟨o.slots, e⟩)
    (fun b o hc e n => ?_) (fun b o hc e => ⟨o, e⟩) (fun b xs e => ?_) (fun b o u e => ?_) (fun b ps e => ⟨#[], ?_⟩) (fun m hm => hm) (fun b u e => ?_) I.bare
  · have e : b = a := by simpa using hb
    subst e
    exact ⟨hf.2.2.2.1, hf.2.1, hf.2.2.2.2.1, hf.2.2.2.2.2⟩
  · rw [upd_ne (fun z => hc (by simp [z]))]; exact n
  · rw [upd_ne (nit b _ e)]; exact e
  · rw [upd_ne (nit b _ e)]; exact e
  · rw [upd_ne (nit b _ e), e]; simp
  · by_cases hb : b = a
    · subst hb
      rw [upd_same] at e
      cases e
      exact new
    · rw [upd_ne hb] at e
      exact (I.hok b u e).stay (fun c v hc q => q) (fun c q => by rw [upd_ne (nit c _ q)]; exact q) fun c xs q => by rw [upd_ne (nit c _ q)]; exact q
end LamY

set_option Elab.async false
set_option linter.all false
set_option maxRecDepth 100000
set_option maxHeartbeats 8000000
namespace LamY
open PySem PySem.W PySem.Spec PyProof.Rows L2 LamX
theorem each_rng : ∀ (L : List Value) (lo : Nat), (∀ j v, L[j]? = some v → ∃ t, v = Value.int ((lo + j : Nat) : Int) t) → EachIs (fun v (i : Int) => ∃ t, v = Value.int i t) L ((List.range' lo L.length).map fun (i : Nat) => (i : Int))
  | [], _, _ => EachIs.nil
  | v :: L, lo, h => by
    obtain ⟨t, rfl⟩ := h 0 v rfl
    rw [List.length_cons, List.range'_succ, List.map_cons]
    refine EachIs.cons ⟨t, rfl⟩ (each_rng L (lo + 1) fun j u hu => ?_)
    obtain ⟨t2, rfl⟩ := h (j + 1) u (by simpa using hu)
    exact ⟨t2, by congr 1; omega⟩
theorem each_vals : ∀ {L : List Value} {M : List Int}, EachIs (fun v (i : Int) => ∃ t, v = Value.int i t) L M → Vals (M.map V.int) L
  | _, _, .nil => .nil
  | _, _, .cons q t => .cons q (each_vals t)
section
variable {X : Cx}
/-- the keyed sort of a new list of the numbers below n, under an invariant of the caller's -/
theorem sort_run {pins : List (Addr × Obj)} {σ : L2.St} {H : Hp} {s : Shared} {f c' : Addr} {pm ctv : Value} {params : Arguments} {body : Expr} {scope : Scope} {a : Str} {k n : Nat} {tb : TE} {kf : Int → Int} {r : Addr} {t u v : Tok} {Q : VK}
    (hc : X.calm = true) (I : Inv X pins σ H s) (L : LamS1 X.env.scope scope a) (hN : a ∉ X.N) (hr : Room (k + 3) X.A) (hf : s.heap.get? f = some (PySem.W.kla_obj "<lambda>" (X.env.qual ++ "<lambda>") params body scope (cloFrom X.env.cells scope.names []) pm c' ctv))
    (hfn : H f = none) (hfr : f ∉ frs X.stack) (hco : H c' = some (CodeO c' (X.env.qual ++ "<lambda>")))
    (hbind : ∀ (q : Str) (cl : List (Str × Addr)) (pm cv ctv u : Value), bindArgs (PySem.W.kla_fn "<lambda>" q params body scope cl pm cv ctv) ⟨[u], []⟩ = pure [(a, u)])
    (hbody : ∀ (A : Around) (outer : List Env) (s : Shared) (H : Hp) (f c' : Addr), Room k (A.deeper (lamEnv X scope s.heap.objs.size f c')) → PE (lamCx1 X A outer s H scope a f c') body tb)
    (hrg : IsRange s.heap r 0 (n : Int) 1 t u v) (hn : n ≤ 1000) (qb : ∀ i : Nat, i < n → tb (σ ++ [some (.int i)]) H fun y H' => y = .int (kf i) ∧ H' = H)
    (q : ∀ p, H p = none → Q (.ref p) (upd H p (.lst ((((List.range n).map fun (i : Nat) => (i : Int)).mergeSort fun a b => decide (kf a ≤ kf b)).map V.int)))) :
    wpAny (model X.prog X.w) X.A (call (.builtin "sorted") [.ref r] [(Str.ofString "key", .ref f)]) (EP X pins σ Q) X.xe s := by
  have hh : X.A.in1.handled = none := I.ok.hd hc
  have hz2 : n ≤ sizeLine := by rw [sizeLine_eq]; omega
  refine call_function_entry_kw kind_sorted plain_sorted entry_sorted (ksk_s1 _ _) ?_
  unfold Builtin.«sorted»
  refine wpAny_bind (m := checkCount "sorted" 1 1 _) (wpAny_pure ?_)
  refine wpAny_bind (L2.collect_range (n := n) hh hrg (small_one (by omega) (by omega) (by omega) (by omega)) (by rw [rangeSize_nat]; omega) (by omega) fun h1 tk1 acc hk1 hacc => ?_)
  have hal : acc.toList.length = n := by rw [Array.length_toList]; exact hacc.1
  refine wpAny_bind (wpAny_newList ?_ (by rw [hal]; exact hz2))
  generalize ha : h1.objs.size = A0
  have I1 : Inv X pins σ H { s with heap := h1, toks := tk1 } := I.kept hk1
  have fpA : FpOk X pins H A0 := by
    have := I1.fpOk (Nat.le_refl _) (I1.hok.fresh (Nat.le_refl _))
    rw [← ha]
    exact this
  have hf1 := hk1 _ _ hf
  have lf1 : f < A0 := by rw [← ha]; exact Heap.lt_size hf1
  have ho : (h1.push (seqObj "list" acc.toList.toArray 0)).get? A0 = some (seqObj "list" acc.toList.toArray 0) := by rw [← ha]; exact Heap.get?_push_size _ rfl
  generalize hh2 : h1.push (seqObj "list" acc.toList.toArray 0) = h2 at ho
  have sz2 : h2.objs.size = A0 + 1 := by rw [← hh2, ← ha]; exact Heap.size_push _ _
  have I2 : Inv X pins σ H { s with heap := h2, toks := tk1 } := by
    rw [← hh2]
    exact I1.kept (t' := tk1) fun b o e => Heap.get?_push_of_some _ e
  have hf2 : h2.get? f = some (PySem.W.kla_obj "<lambda>" (X.env.qual ++ "<lambda>") params body scope (cloFrom X.env.cells scope.names []) pm c' ctv) := by
    rw [← hh2]
    exact Heap.get?_push_of_some _ hf1
  refine wpAny_bind (wpAny_holding (wpAny_call_entry_kw slot_list_sort ⟨seqObj "list" acc.toList.toArray 0, ?tyA, rfl⟩ entry_list_sort ?body (ksk_l1 _ _)))
  case tyA =>
    exact ho
  case body =>
  show wpAny (model X.prog X.w) X.A.in1.in1 (Builtin.«list.sort» ⟨[.ref A0], [(Str.ofString "key", .ref f)]⟩) _ _ _
  show wpAny (model X.prog X.w) X.A.in1.in1 (Builtin.«list.sort» ⟨[.ref A0], [(Str.ofString "key", .ref f)]⟩) _ _ ({ s with heap := h2, toks := tk1 } : Shared)
  rw [ksk_t1]
  unfold ksk_tree
  obtain ⟨e1, ho1⟩ : ∃ e1, (h2.update A0 (Obj.mapSeq fun _ => (#[] : Array Value))).get? A0 = some (seqObj "list" #[] e1) := ⟨_, get?_update_seq ho fun _ => #[]⟩
  have hkS : ((h2.update A0 (Obj.mapSeq fun _ => (#[] : Array Value))).push (seqObj "tuple" acc.toList.toArray 0)).objs.size = h2.objs.size + 1 := by rw [size_push', Heap.size_update]
  refine wpAny_bind (listItems_at ho rfl ?_)
  refine wpAny_bind (listUpdate_at ho rfl ?_ (by rw [List.size_toArray, hal]; exact hz2) (Nat.zero_le _))
  refine wpAny_bind (seqEpoch_at ho1 rfl ?_)
  refine wpAny_bind (wpAny_newTuple ?_ (by show acc.toList.toArray.toList.length ≤ _; rw [List.toList_toArray, hal]; exact hz2))
  refine wpAny_bind (wpAny_newList ?_ (Nat.zero_le _))
  refine wpAny_holding ?_
  have up1 : ∀ b o, b ≠ A0 → h2.get? b = some o → (h2.update A0 (Obj.mapSeq fun _ => (#[] : Array Value))).get? b = some o := fun b o hb e => (Heap.get?_update_other _ _ (fun z => hb z.symm)).trans e
  have I3 : Inv X pins σ H { s with heap := (h2.update A0 (Obj.mapSeq fun _ => (#[] : Array Value))).push (seqObj "tuple" acc.toList.toArray 0), toks := tk1 } := by
    have z := I2.turnedL (ch := [A0]) (h' := h2.update A0 (Obj.mapSeq fun _ => (#[] : Array Value))) (t' := tk1) (fun b o hb e => up1 b o (by simpa using hb) e) (fun b hb => by
      have : b = A0 := by simpa using hb
      rw [this]
      exact fpA)
    exact z.kept (t' := tk1) fun b o e => Heap.get?_push_of_some _ e
  have fpK : FpOk X pins H (((h2.update A0 (Obj.mapSeq fun _ => (#[] : Array Value))).push (seqObj "tuple" acc.toList.toArray 0)).objs.size) := I3.fpOk (Nat.le_refl _) (I3.hok.fresh (Nat.le_refl _))
  generalize hK : ((h2.update A0 (Obj.mapSeq fun _ => (#[] : Array Value))).push (seqObj "tuple" acc.toList.toArray 0)).objs.size = kS at fpK hkS
  have hkA : kS ≠ A0 := by omega
  have nk : (((h2.update A0 (Obj.mapSeq fun _ => (#[] : Array Value))).push (seqObj "tuple" acc.toList.toArray 0)).push (seqObj "list" #[] 0)).get? kS = some (seqObj "list" #[] 0) := by rw [← hK]; exact Heap.get?_push_size _ rfl
  have na : (((h2.update A0 (Obj.mapSeq fun _ => (#[] : Array Value))).push (seqObj "tuple" acc.toList.toArray 0)).push (seqObj "list" #[] 0)).get? A0 = some (seqObj "list" #[] e1) := Heap.get?_push_of_some _ (Heap.get?_push_of_some _ ho1)
  have lAK : A0 < kS := by omega
  have nf : f ≠ kS ∧ f ≠ A0 := ⟨Nat.ne_of_lt (Nat.lt_trans lf1 lAK), Nat.ne_of_lt lf1⟩
  have nstk : ∀ b, FpOk X pins H b → b ∉ frs X.stack := fun b hb z => by
    rcases List.mem_cons.mp (I.stkSub _ z) with e | e
    · exact hb.2.1 e
    · exact hb.2.2.1 e
  have I4 : Inv X pins σ H { s with heap := ((h2.update A0 (Obj.mapSeq fun _ => (#[] : Array Value))).push (seqObj "tuple" acc.toList.toArray 0)).push (seqObj "list" #[] 0), toks := tk1 } := I3.kept (t' := tk1) fun b o e => Heap.get?_push_of_some _ e
  have hL : H X.env.locals = none := I.free
  have hdrop : dropH H X.env.locals = H := by
    funext b
    by_cases e : b = X.env.locals
    · rw [e, dropH_at, hL]
    · exact dropH_ne e
  refine keyJ_rest (kz := (List.range n).map fun (i : Nat) => kf i) (J := fun s' => Inv X pins σ H s' ∧ s'.heap.get? f = some (PySem.W.kla_obj "<lambda>" (X.env.qual ++ "<lambda>") params body scope (cloFrom X.env.cells scope.names []) pm c' ctv)) hkA (fun s h' tk ⟨J, jf⟩ k => ?_)
    ⟨I4, Heap.get?_push_of_some _ (Heap.get?_push_of_some _ (up1 _ _ nf.2 hf2))⟩ nk na (by rw [List.length_map, List.length_range, hal]) (by rw [hal]; exact hz2) (by have := hr.un; show X.A.units + 1 + 1 + 1 < cLine; omega) (fun i v k0 hv hk s o1 o2 ⟨J, jf⟩ g1 g2 => ?_) (fun s' out c0 ⟨J, jf⟩ hD ko => ?_)
  · refine ⟨J.turnedL (ch := [kS, A0]) (h' := h') (t' := tk) (fun b o hb e => k b o (fun z => hb (by simp [z])) (fun z => hb (by simp [z])) e) (fun b hb => ?_), k _ _ nf.1 nf.2 jf⟩
    rcases List.mem_cons.mp hb with e | hb
    · rw [e]; exact fpK
    · have : b = A0 := by simpa using hb
      rw [this]
      exact fpA
  · have hi : i < n := by
      have := (List.getElem?_eq_some_iff.mp hv).1
      rw [hal] at this
      exact this
    obtain ⟨t5, ht5⟩ := hacc.2 i v (by rw [← Array.getElem?_toList]; exact hv)
    have ev : v = .int (i : Int) t5 := by rw [ht5]; congr 1; omega
    subst ev
    rw [List.getElem?_map, List.getElem?_range hi] at hk
    cases hk
    refine wpAny_mono (lam_callD (l := X.env.locals) (A := X.A.in1.in1) (.inl hL) J L hN jf hco (hbind _ _ _ _ _ _) hr.in1.in1 rfl (fun A outer s H hr2 => hbody A outer s H f c' hr2) (v := .int (i : Int)) ⟨t5, rfl⟩ (by rw [hdrop]; exact qb i hi)) (fun z s' hz => ?_) fun _ _ z => z.elim
    obtain ⟨I5, ⟨t6, rfl⟩, _, kp⟩ := hz
    exact ⟨⟨I5, kp f _ jf (.inl hfn) hfr⟩, ⟨t6, rfl⟩, kp _ _ g1 (.inl fpK.1) (nstk _ fpK), kp _ _ g2 (.inl fpA.1) (nstk _ fpA)⟩
  · refine ⟨_, rfl, wpAny_pure ⟨_, rfl, ?_⟩⟩
    have hbs : EachIs (fun v (i : Int) => ∃ t, v = Value.int i t) acc.toList ((List.range n).map fun (i : Nat) => (i : Int)) := by
      have z := each_rng acc.toList 0 (fun j v hv => by
        obtain ⟨t5, ht5⟩ := hacc.2 j v (by rw [← Array.getElem?_toList]; exact hv)
        exact ⟨t5, by rw [ht5]; congr 1; omega⟩)
      rw [hal, ← List.range_eq_range'] at z
      exact z
    have ko' : KeyedOut false (((List.range n).map fun (i : Nat) => (i : Int)).map fun i => PyData.int (kf i)) acc.toList out := by
      rw [List.map_map] at ko ⊢
      exact ko
    have ke := keyedOut_each (fun i => PyData.int (kf i)) ko' hbs
    rw [dataLe_int] at ke
    have hv : ∀ {L : List Value} {M : List Int}, EachIs (fun v (i : Int) => ∃ t, v = Value.int i t) L M → Vals (M.map V.int) L := fun {L M} h => each_vals h
    have hlen : ((((List.range n).map fun (i : Nat) => (i : Int)).mergeSort fun a b => decide (kf a ≤ kf b)).map V.int).length ≤ sizeLine := by
      rw [List.length_map, List.length_mergeSort, List.length_map, List.length_range]
      exact hz2
    exact ⟨.ref A0, upd H A0 (.lst _), inv_track J fpA ⟨hlen, out, c0, hv ke, hD⟩, rfl, q A0 fpA.1⟩
/-- sorted(range(e), key=lambda ..) -/
theorem pe_sortedKey {T : List (Addr × Str)} {c P : Addr} {a : Str} {k : Nat} {params : Arguments} {body : Expr} {scope : Scope} {te tb : TE} {e1 : Expr} {lpos p p1 pos1 pos kp1 : Pos} (hc : X.calm = true) (hg : Gl X "sorted") (hm : X.mg "sorted" = none) (hgr : Gl X "range") (hmr : X.mg "range" = none) (ha : PE X e1 te)
    (TB : TabB X.base X.mg c P) (hcode : X.env.code = .ref c) (hmT : (P, X.env.qual ++ "<lambda>") ∈ T) (hu : ∀ p ∈ T, p.1 = P → p.2 = X.env.qual ++ "<lambda>") (hr : Room (k + 3) X.A) (L : LamS1 X.env.scope scope a) (hN : a ∉ X.N) (hdef : defaultsOf params X.env = ([], []))
    (hbind : ∀ (q : Str) (cl : List (Str × Addr)) (pm cv ctv u : Value), bindArgs (PySem.W.kla_fn "<lambda>" q params body scope cl pm cv ctv) ⟨[u], []⟩ = pure [(a, u)])
    (hbody : ∀ (A : Around) (outer : List Env) (s : Shared) (H : Hp) (f c' : Addr), Room k (A.deeper (lamEnv X scope s.heap.objs.size f c')) → PE (lamCx1 X A outer s H scope a f c') body tb)
    (na : starEach [e1] X.env = (false, eval e1 X.env) :: starEach [] X.env := by rfl) :
    PE X (.Call (.Name "sorted" p) [.Call (.Name "range" p1) [e1] [] pos1] [⟨some "key", .Lambda params body scope lpos, kp1⟩] pos) (tSortK T te tb) := by
  refine ⟨fun pins s σ H Q I h => ?_⟩
  refine wpAny_Call_Name_kw (ld_blt I hg hm (show bootBuiltins "sorted" = some (.builtin "sorted") by decide +kernel) ?_)
  refine PyProof.Rows.callWith_kw ?_ (by rfl) (by rfl) (by rfl) (by rfl)
  show wpAny _ _ (spliced ((false, eval (.Call (.Name "range" p1) [e1] [] pos1) X.env) :: backTo pos (starEach [] X.env))) _ _ s
  refine Calls.spliced_cons ?_
  refine Call_ (ld_blt I hgr hmr boot_range (PyProof.Rows.callWith_type1 (one_arg ha I h (fun v s2 x H2 I2 r q => ?_) na) na))
  obtain ⟨n, kf, rfl, hn, hT, q⟩ := q
  obtain ⟨t, rfl⟩ := r
  refine call_range_1 ?_
  refine Calls.spliced_nil ?_
  generalize hs3 : ({ s2 with heap := s2.heap.push { cls := .type "range", data := .fields #[.int 0 s2.toks, .int n t, .int 1 (s2.toks + 1)] }, toks := s2.toks + 1 + 1 } : Shared) = s3
  have I3 : Inv X pins σ H2 s3 := by
    rw [← hs3]
    exact I2.kept fun b o e => Heap.get?_push_of_some _ e
  have hrg3 : IsRange s3.heap s2.heap.objs.size 0 n 1 s2.toks t (s2.toks + 1) := by
    rw [← hs3]
    exact IsRange.new _ _ _ _ _ _ _
  have fpr : FpOk X pins H2 s2.heap.objs.size := I2.fpOk (Nat.le_refl _) (I2.hok.fresh (Nat.le_refl _))
  have I3p : Inv X ((s2.heap.objs.size, { cls := .type "range", dict := none, data := .fields #[.int 0 s2.toks, .int n t, .int 1 (s2.toks + 1)], slots := #[] }) :: pins) σ H2 s3 := I3.pins_of fun p hp => by
    rcases List.mem_cons.mp hp with e | hp
    · rw [e]
      exact ⟨hrg3, fpr.1, fpr.2.1, fpr.2.2.1, fun v z => by cases z⟩
    · exact I3.pin p (List.mem_append_right _ hp)
  show wpAny _ _ (evalAll ((do let v ← eval (.Lambda params body scope lpos) X.env; standAt pos; pure v) :: [])) _ _ s3
  refine wpAny_evalAll_cons (wpAny_bind (lam_make2 I3p TB hcode hmT hu hT hdef (L.has I3p.ok) fun f c' pm ctv H4 s4 I4 eN T4 hf hfn hfr hco => wpAny_bind (wpAny_standAt (wpAny_pure ?_))))
  refine wpAny_evalAll_nil ?_
  have I5 : Inv X pins σ H4 s4 := I4.pins_of fun p hp => I4.pin p (List.mem_append_right _ (List.mem_cons_of_mem _ hp))
  have hrg4 : IsRange s4.heap s2.heap.objs.size 0 n 1 s2.toks t (s2.toks + 1) := (I4.pin (s2.heap.objs.size, _) (List.mem_append_right _ List.mem_cons_self)).1
  obtain ⟨qb, qq⟩ := q H4 eN T4
  exact sort_run hc I5 L hN hr hf hfn hfr hco hbind hbody hrg4 hn qb qq
end
end LamY

set_option Elab.async false
set_option linter.all false
set_option maxRecDepth 100000
/-! Attributes as targets, dicts of whole numbers, methods. -/
namespace Fn
open PySem PySem.Spec L2
/-- an attribute as a target -/
def gFldT (K : PySem.W.Frag) (ta : TE) (f : Str) : TG := fun y σ H Q => ta σ H fun x H2 => ∃ a C dx fs, x = .ref a ∧ H2 a = some (.ins C dx fs) ∧ Cls K C ∧ NoAttr K C f ∧ fs.length < 1000 ∧ Q σ (upd H2 a (.ins C dx (putF f y fs)))
theorem pg_fld {X : Cx} {o : Expr} {f : Str} {pos : Pos} {ta : TE} (ha : PE X o ta) : PG X (.Attribute o f pos) (gFldT X.K ta f) := by
  refine ⟨fun pins s σ H v u Q I r h => ?_⟩
  rw [assign_Attribute]
  refine wpAny_bind (wpAny_holding (thn (ha.run pins s σ H _ I h) fun ov s1 ⟨x, H1, I1, rx, a, C, dx, fs, ex, ea, c, n, l, q2⟩ => ?_))
  subst ex
  obtain rfl : ov = Value.ref a := rx
  exact wpAny_bind (wpAny_standAt (wpAny_bind (wpAny_holding (setattr_ok I1 ea c n l r fun s3 I3 => wpAny_release ⟨σ, _, I3, q2⟩))))
/-! ### dicts of whole numbers -/
def putI (kvs : List (Int × Int)) (k v : Int) : List (Int × Int) := if (kvs.any fun p => decide (p.1 = k)) = true then kvs.map (fun p => if p.1 = k then (p.1, v) else p) else kvs ++ [(k, v)]
def getI (kvs : List (Int × Int)) (k : Int) : Option Int := (kvs.find? fun p => decide (p.1 = k)).map (·.2)
def kvV (p : Int × Int) : L2.Key × V := (Sum.inl p.1, V.int p.2)
theorem kv_key (a b : Int) : decide ((Sum.inl a : L2.Key) = Sum.inl b) = decide (a = b) := by
  by_cases h : a = b
  · rw [h]; simp
  · rw [decide_eq_false h]
    exact decide_eq_false fun z => h (Sum.inl.inj z)
theorem put_kv (kvs : List (Int × Int)) (k v : Int) : putK (kvs.map kvV) (Sum.inl k) (V.int v) = (putI kvs k v).map kvV := by
  unfold putK putI
  have e : (kvs.map kvV).any (fun kv => decide (kv.1 = (Sum.inl k : L2.Key))) = kvs.any fun p => decide (p.1 = k) := by
    rw [List.any_map]
    congr 1
    funext p
    exact kv_key p.1 k
  rw [e]
  split
  · rw [List.map_map, List.map_map]
    congr 1
    funext p
    show (if (kvV p).1 = Sum.inl k then ((kvV p).1, V.int v) else kvV p) = kvV (if p.1 = k then (p.1, v) else p)
    by_cases h : p.1 = k
    · rw [if_pos h, if_pos (by show (Sum.inl p.1 : L2.Key) = _; rw [h])]
      rfl
    · rw [if_neg h, if_neg (show ¬ (kvV p).1 = (Sum.inl k : L2.Key) from fun z => h (Sum.inl.inj z))]
  · rw [List.map_append]
    rfl
theorem get_kv (kvs : List (Int × Int)) (k : Int) : valV (kvs.map kvV) (Sum.inl k : L2.Key) = (getI kvs k).map V.int := by
  unfold valV getI
  induction kvs with
  | nil => rfl
  | cons p kvs ih =>
    rw [List.map_cons, List.find?_cons, List.find?_cons]
    have e : decide ((kvV p).1 = (Sum.inl k : L2.Key)) = decide (p.1 = k) := kv_key p.1 k
    rw [e]
    cases decide (p.1 = k) with
    | true => rfl
    | false => exact ih
theorem kv_eq (kvs : List (Int × Int)) : (kvs.map fun p => ((Sum.inl p.1 : L2.Key), V.int p.2)) = kvs.map kvV := rfl
theorem putI_len (kvs : List (Int × Int)) (k v : Int) : (putI kvs k v).length ≤ kvs.length + 1 := by
  unfold putI
  split
  · rw [List.length_map]; omega
  · rw [List.length_append]; exact Nat.le_refl _
section
variable {K : PySem.W.Frag} {c : Ct} {own : List Nat} {b : Bool}
def intO : PyData → O Int
  | .int i => .ok i
  | _ => .bad
def dictL (f : PyData → Rho → O Rho) (ek ev : Rho → O PyData) (ρ : Rho) : List (Int × Int) → List PyData → O (List (Int × Int))
  | kvs, [] => .ok kvs
  | kvs, d :: ds => (f d ρ).bind fun ρ1 => (noEx ((ek ρ1).bind intO)).bind fun k => (noEx ((ev ρ1).bind intO)).bind fun v => dictL f ek ev ρ (putI kvs k v) ds
def gDict (vs : List Nat) (f : PyData → Rho → O Rho) (ek ev : Rho → O PyData) (gi : Rho → O (List PyData)) : Rho → O PyData := fun ρ => (gi ρ).bind fun ds => if ds.length ≤ lim then (noEx (dictL f ek ev (wipeR ρ vs) [] ds)).bind fun kvs => .ok (D.dc kvs) else .bad
theorem dictL_len {f : PyData → Rho → O Rho} {ek ev : Rho → O PyData} {ρ : Rho} : ∀ {ds : List PyData} {kvs kvs' : List (Int × Int)}, dictL f ek ev ρ kvs ds = .ok kvs' → True := fun _ => trivial
theorem fe_dict {vs : List Nat} {wi : TI} {g : TG} {tk tv : TE} {gi : Rho → O (List PyData)} {f : PyData → Rho → O Rho} {ek ev : Rho → O PyData} (hi : FI K c own wi gi) (hg : FC K c.noW own vs g f)
    (hx : ∀ d ρ k, f d ρ ≠ .ex k) (hk : FE K c.noW own true tk ek) (hv : FE K c.noW own true tv ev) : FE K c own b (tDc wi g tYes tk tv vs) (gDict vs f ek ev gi) := FE.any fun σ H F ρ Q S q => by
  refine hi σ H F ρ _ S (OPost.imp (fun ds q J H1 F1 e1 it => ?_) (fun _ q => q) (OPost.bind q))
  split at q
  · rename_i hlim
    intro A hA
    have S1 := S.ext e1
    cases hz : dictL f ek ev (wipeR ρ vs) [] ds with
    | ex n => rw [hz] at q; exact q.elim
    | bad => rw [hz] at q; exact q.elim
    | ok zs =>
      rw [hz] at q
      have q : ∀ v H' F', Ext F1 H1 F' H' → Rep K c.cls F' v (D.dc zs) → Q v H' := fun v H' F' e r => q v H' F' (e1.trans e) r
      refine ⟨fun i m H2 => m = ds.length - i ∧ i ≤ ds.length ∧ ∃ F2 kvs, Ext F1 H1 F2 H2 ∧ H2 A = some (.dK (kvs.map kvV)) ∧ F2 A = none ∧ kvs.length ≤ i ∧ dictL f ek ev (wipeR ρ vs) kvs (ds.drop i) = .ok zs,
        ⟨ds.length, by omega, Nat.zero_le _, F1, [], Ext.newO e1.s hA, upd_same, e1.s.free hA, Nat.zero_le _, hz⟩, ?_⟩
      rintro i m H2 ⟨rfl, hle, F2, kvs, e2, hD, hF, hl, hc⟩
      obtain ⟨i1, i2, i3⟩ := it F2 H2 e2.f e2.s i
      by_cases hlt : i < ds.length
      · refine .inr ⟨i1 hlt, fun H3 => ∃ F3 kvs', Ext F1 H1 F3 H3 ∧ H3 A = some (.dK (kvs'.map kvV)) ∧ F3 A = none ∧ kvs'.length ≤ i + 1 ∧ dictL f ek ev (wipeR ρ vs) kvs' (ds.drop (i + 1)) = .ok zs,
          fun H3 z => ⟨ds.length - (i + 1), by omega, rfl, hlt, z⟩, fun x H3 y => ?_⟩
        obtain ⟨F3, e3, r3⟩ := i3 x H3 ds[i] (List.getElem?_eq_getElem hlt) y
        rw [List.drop_eq_getElem_cons hlt] at hc
        unfold dictL at hc
        obtain ⟨ρ1, ho, hc⟩ := O.bind_okI hc
        obtain ⟨k, hk1, hc⟩ := O.bind_okI hc
        obtain ⟨v, hv1, hc⟩ := O.bind_okI hc
        obtain ⟨dk, hk2, hk3⟩ := O.bind_okI (noEx_okI hk1)
        obtain ⟨dv, hv2, hv3⟩ := O.bind_okI (noEx_okI hv1)
        have ek' : dk = .int k := by
          unfold intO at hk3
          split at hk3
          · cases hk3; rfl
          · cases hk3
        have ev' : dv = .int v := by
          unfold intO at hv3
          split at hv3
          · cases hv3; rfl
          · cases hv3
        subst ek' ev'
        have e13 := e2.trans e3
        refine hg x ds[i] (L2.wipe σ vs) H3 F3 (wipeR ρ vs) _ ((S1.ext e13).wipe vs) r3 ?_
        rw [ho]
        intro σ4 w4 S4
        refine ⟨w4.trans (wipe_wipe σ vs), yes_rd (ifT ?_)⟩
        have nF : ∀ {F5 H5}, Ext F2 H2 F5 H5 → F5 A = none := fun {F5 H5} ee => by
          cases qq : F5 A with
          | none => rfl
          | some o =>
            rcases ee.n A o qq with z | z
            · rw [hF] at z; cases z
            · rw [hD] at z; cases z
        refine hk σ4 H3 F3 ρ1 _ S4 ?_
        rw [hk2]
        intro u H5 F5 e5 r5
        cases r5
        refine hv σ4 H5 F5 ρ1 _ (S4.ext e5) ?_
        rw [hv2]
        intro u2 H6 F6 e6 r6
        cases r6
        have e26 := (e3.trans e5).trans e6
        refine ⟨kvs.map kvV, Sum.inl k, rfl, e26.h _ _ hD, by rw [List.length_map]; exact lt_lim (by omega), F6, putI kvs k v, (e2.trans e26).updNew hA (nF e26), ?_, nF e26, ?_, hc⟩
        · rw [upd_same, put_kv]
        · have := putI_len kvs k v
          omega
      · have : i = ds.length := by omega
        subst this
        rw [List.drop_length] at hc
        have hc : O.ok kvs = O.ok zs := hc
        cases hc
        refine .inl ⟨i2 rfl, q (.ref A) H2 (upd F2 A (.dK (zs.map kvV))) (e2.keep hA hD) (.dc upd_same)⟩
  · exact q.elim
def gGet2 (g gk gd : Rho → O PyData) : Rho → O PyData := fun ρ => (g ρ).bind fun d => match d with
  | .dict ((.bool false, .none) :: kvs) => (gk ρ).bind fun k => (gd ρ).bind fun z => match k with
    | .int k => (match kvs.find? (fun p => match p.1 with
        | .int j => decide (j = k)
        | _ => false) with
      | some p => .ok p.2
      | none => .ok z)
    | _ => .bad
  | _ => .bad
theorem find_dc (kvs : List (Int × Int)) (k : Int) : (kvs.map fun p => ((PyData.int p.1, PyData.int p.2) : PyData × PyData)).find? (fun p => match p.1 with
        | .int j => decide (j = k)
        | _ => false) = (kvs.find? fun p => decide (p.1 = k)).map fun p => (.int p.1, .int p.2) := by
  induction kvs with
  | nil => rfl
  | cons p kvs ih =>
    rw [List.map_cons, List.find?_cons, List.find?_cons]
    show (match decide (p.1 = k) with | true => some _ | false => List.find? _ _) = _
    cases decide (p.1 = k) with
    | true => rfl
    | false => exact ih
theorem fe_get2 {t tk td : TE} {g gk gd : Rho → O PyData} (h : FE K c own true t g) (hk : FE K c own true tk gk) (hd : FE K c own true td gd) : FE K c own b (tDGet2 t tk td) (gGet2 g gk gd) := FE.any fun σ H F ρ Q S q => by
  refine h σ H F ρ _ S (OPost.imp (fun d q v H1 F1 e1 r1 => ?_) (fun _ q => q) (OPost.bind q))
  split at q
  · rename_i kvs
    obtain ⟨a, ks, rfl, rfl, ha⟩ : ∃ (a : Addr) (ks : List (Int × Int)), v = .ref a ∧ kvs = (ks.map fun p => (.int p.1, .int p.2)) ∧ F1 a = some (.dK (ks.map kvV)) := by
      cases r1 with
      | dc h => exact ⟨_, _, rfl, rfl, h⟩
    refine ⟨a, rfl, .inl ⟨_, .inl (e1.s _ _ ha)⟩, ?_⟩
    refine hk σ H1 F1 ρ _ (S.ext e1) (OPost.imp (fun k q w H2 F2 e2 r2 => ?_) (fun _ q H2 s => q H2 (e1.h.trans s)) (OPost.bind q))
    refine hd σ H2 F2 ρ _ (S.ext (e1.trans e2)) (OPost.imp (fun z q u H3 F3 e3 r3 => ?_) (fun _ q H2 s => q H2 ((e1.trans e2).h.trans s)) (OPost.bind q))
    split at q
    · rename_i k _
      cases r2
      have e13 := e2.trans e3
      have hg := DGet.k (H := H3) (k := Sum.inl k) (e13.h _ _ (e1.s _ _ ha))
      refine ⟨_, hg, ?_⟩
      rw [get_kv]
      rw [find_dc] at q
      unfold getI
      cases hf : ks.find? (fun p => decide (p.1 = k)) with
      | none =>
        rw [hf] at q
        exact q u H3 F3 ((e1.trans e2).trans e3) r3
      | some p =>
        rw [hf] at q
        exact q _ H3 F3 ((e1.trans e2).trans e3) (.int p.2)
    · exact q.elim
  · exact q.elim
end
/-! ### methods -/
/-- an instance without an attribute of the method's name -/
def isOb (k : Nat) (m : Str) : PyData → Bool
  | .dict ((.bool true, .int j) :: gs) => decide (j = k) && (fieldD m gs).isNone
  | _ => false
theorem noField {K : PySem.W.Frag} {cls : Nat → Addr} {F : Hp} {n : Str} : ∀ {fs : List (Str × V)} {gs : List (PyData × PyData)}, RepF K cls F fs gs → fieldD n gs = none → fs.lookup n = none
  | _, _, .nil, _ => rfl
  | _, _, .cons (n := m) (v := v) (d := d') r t, h => by
    unfold fieldD at h
    rw [List.lookup_cons]
    cases e : n == m with
    | true => rw [e, if_pos rfl] at h; cases h
    | false =>
      rw [e, if_neg Bool.false_ne_true] at h
      exact noField t h
theorem isOb_of {K : PySem.W.Frag} {cls : Nat → Addr} {F : Hp} {k : Nat} {m : Str} {v : V} {d : PyData} (r : Rep K cls F v d) (h : isOb k m d = true) : ∃ a dx fs, v = .ref a ∧ F a = some (.ins (cls k) dx fs) ∧ fs.lookup m = none := by
  unfold isOb at h
  split at h
  · rename_i j gs
    rw [Bool.and_eq_true] at h
    cases r with
    | ob ha rf =>
      rename_i a dx k' fs
      have : k' = k := by
        have := of_decide_eq_true h.1
        omega
      subst this
      refine ⟨_, _, _, rfl, ha, noField rf ?_⟩
      cases q : fieldD m gs with
      | none => rfl
      | some x => rw [q] at h; exact absurd h.2 (by simp)
  · cases h
def MethAt (K : PySem.W.Frag) (C : Addr) (x qual : Str) (st : Stmt) (ps : List Str) : Prop := ∃ f fd, Fun K x qual st f fd ∧ Meth K C x f ∧ Binds K fd ps []
def OkM (P : Program) (w : World) (K : PySem.W.Frag) (mg : Str → Option Value) (base : Heap) (C : Addr) (x : Str) (ps : List Str) (k : Nat) (sp : Sp) : Prop :=
  ∃ f fd, FnOk P w K mg base (L2.CX P w) k f fd ps sp ∧ Meth K C x f ∧ Binds K fd ps []
section
variable {P : Program} {w : World} {K : PySem.W.Frag} {mg : Str → Option Value} {base : Heap} {cls xc : Nat → Addr} {C : Addr} {x qual : Str} {st : Stmt} {ps N : List Str} {k : Nat}
theorem okM_of (d : MethAt K C x qual st ps) (S : FnScope N ps (defScope st)) (g : Rho → R) (own' : List Nat)
    (h : ∀ (f : Addr) (cdv : Value) (A : Around) (outer : List Env) (s : Shared) (H : Hp) (E : XK) (F0 : Hp), Room k (A.deeper (PyProof.Rows.envOfC qual (defScope st) s.heap.objs.size f cdv)) →
      ∃ t, PSs (cxOf (L2.CX P w) P w K mg base N qual (defScope st) f cdv A outer s H E) (defBody st) t ∧ FS K ⟨cls, xc, fun cl d _ H' => E cl d H', (H, F0, []), false⟩ [] [] own' t g) :
    OkM P w K mg base C x ps (k + 1) (spF K cls xc ps.length (fnG N.length g)) := by
  obtain ⟨f, fd, F, m, b⟩ := d
  exact ⟨f, fd, fn_ok F S g own' (h f), m, b⟩
theorem okMN_of (d : MethAt K C x qual st ps) (S : FnScope N ps (defScope st)) (g : Rho → R) (own' : List Nat)
    (h : ∀ (f : Addr) (cdv : Value) (A : Around) (outer : List Env) (s : Shared) (H : Hp) (E : XK) (F0 : Hp), Room k (A.deeper (PyProof.Rows.envOfC qual (defScope st) s.heap.objs.size f cdv)) →
      ∃ t, PSs (cxOf (L2.CX P w) P w K mg base N qual (defScope st) f cdv A outer s H E) (defBody st) t ∧ FS K ⟨cls, xc, fun cl d _ H' => E cl d H', (H, F0, []), true⟩ [] [] own' t g) :
    OkM P w K mg base C x ps (k + 1) (spN K cls xc ps.length (fnG N.length g)) := by
  obtain ⟨f, fd, F, m, b⟩ := d
  exact ⟨f, fd, fn_okN F S g own' (h f), m, b⟩
end
def E0 : XK := fun _ _ _ => False
theorem passE0 {X : Cx} : Passes (L2.CX X.prog X.w) X E0 := fun _ _ _ _ _ _ _ x => by
  obtain ⟨_, _, _, _, _, _, _, _, _, _, _, _, z⟩ := x
  exact z.elim
section
variable {X : Cx} {C : Addr} {m : Str} {ps : List Str} {k j : Nat} {sp : Sp} {o e : Expr} {es : List Expr} {ta : TE} {t : TA} {pos apos : Pos}
theorem pe_methO {pl : Sem Bool} (ok : OkM X.prog X.w X.K X.mg X.base C m ps k sp) (c : Cls X.K C) (he : PE X o ta) (hr : Room j X.A) (hk : k ≤ j) (ha : PA X (e :: es) t)
    (hst : starEach (e :: es) X.env = (false, eval e X.env) :: starEach es X.env := by rfl) (hpl : (backTo pos (starEach es X.env)).any (·.1) = false := by rfl)
    (ht : eval (.Call (.Attribute o m apos) (e :: es) [] pos) X.env = (do
      let ov ← eval o X.env
      standAt apos.atName
      let (f, first) ← holding [ov] (getMethod ov m pl)
      callWith pos f first (backTo pos (starEach (e :: es) X.env)) (backToKw pos (keywordEach [] X.env))) := by rfl) :
    PE X (.Call (.Attribute o m apos) (e :: es) [] pos) (tMeth C m sp [] E0 ta t) := by
  obtain ⟨f, fd, F, M, b⟩ := ok
  exact pe_meth he c M F (hr.mono hk) b .nil passE0 ha hst hpl ht
theorem pe_methO0 {pl : Sem Bool} (ok : OkM X.prog X.w X.K X.mg X.base C m ps k sp) (c : Cls X.K C) (he : PE X o ta) (hr : Room j X.A) (hk : k ≤ j)
    (ht : eval (.Call (.Attribute o m apos) [] [] pos) X.env = (do
      let ov ← eval o X.env
      standAt apos.atName
      let (f, first) ← holding [ov] (getMethod ov m pl)
      callWith pos f first (backTo pos (starEach [] X.env)) (backToKw pos (keywordEach [] X.env))) := by rfl) :
    PE X (.Call (.Attribute o m apos) [] [] pos) (tMeth C m sp [] E0 ta tNil) := by
  obtain ⟨f, fd, F, M, b⟩ := ok
  exact pe_meth0 he c M F (hr.mono hk) b .nil passE0 ht
end
section
variable {K : PySem.W.Frag} {c : Ct} {own : List Nat} {b : Bool}
/-- a method that tells a new list -/
def gMethL (k : Nat) (m : Str) (n : Nat) (f : List PyData → O PyData) (gs : Rho → O PyData) (ga : Rho → O (List PyData)) : Rho → O PyData := fun ρ => (gs ρ).bind fun d => if isOb k m d = true then (ga ρ).bind fun ds => if ds.length + 1 = n then (noEx (f (d :: ds))).bind listO else .bad else .bad
theorem gMethL_list {k n : Nat} {m : Str} {f : List PyData → O PyData} {gs : Rho → O PyData} {ga : Rho → O (List PyData)} : ∀ ρ d, gMethL k m n f gs ga ρ = .ok d → ∃ ds, d = .list ds := fun ρ d h => by
  unfold gMethL at h
  obtain ⟨x, _, h⟩ := O.bind_okI h
  split at h
  · obtain ⟨ds, _, h⟩ := O.bind_okI h
    split at h
    · obtain ⟨e, _, h⟩ := O.bind_okI h
      unfold listO at h
      split at h
      · cases h; exact ⟨_, rfl⟩
      · cases h
    · cases h
  · cases h
theorem fo_methN {k n : Nat} {m : Str} {f : List PyData → O PyData} {t : TE} {ta : TA} {gs : Rho → O PyData} {ga : Rho → O (List PyData)} (h : FE K c own true t gs) (ha : FA K c own true ta ga) : FO K c own (tMeth (c.cls k) m (spN K c.cls c.xc n f) [] E0 t ta) (gMethL k m n f gs ga) := fun σ H F ρ Q S q => by
  refine h σ H F ρ _ S (OPost.imp (fun d q v H1 F1 e1 r1 => ?_) (fun _ q => q) (OPost.bind q))
  split at q
  · rename_i ho
    obtain ⟨a, dx, fs, rfl, h1, h2⟩ := isOb_of r1 ho
    refine ⟨a, dx, fs, rfl, e1.s _ _ h1, h2, ?_⟩
    refine ha σ H1 F1 ρ _ (S.ext e1) (OPost.imp (fun ds q vs H2 F2 e2 r2 => ?_) (fun _ q H2 s => q H2 (e1.h.trans s)) (OPost.bind q))
    split at q
    · rename_i hn
      rw [List.append_nil]
      have r2 : RepL K c.cls F2 vs ds := r2
      refine ⟨F2, d :: ds, e2.s, .cons (r1.mono e2.f) r2, hn, ?_⟩
      cases hf : f (d :: ds) with
      | ex n => rw [hf] at q; exact q.elim
      | bad => rw [hf] at q; exact q.elim
      | ok z =>
        rw [hf] at q
        show ∃ es, z = .list es ∧ _
        have q2 : OPost _ _ (listO z) := q
        clear q
        unfold listO at q2
        split at q2
        · rename_i es
          obtain ⟨es', e0, q⟩ := q2
          cases e0
          exact ⟨es, rfl, fun p xs H3 F3 e3 h3 f3 n3 r3 => q p xs H3 F3 ((e1.trans e2).trans e3) h3 f3 ((e1.trans e2).h.free n3) r3⟩
        · exact q2.elim
    · exact q.elim
  · exact q.elim
end
section
variable (ρ : Rho) (k n : Nat) (m : Str) (f : List PyData → O PyData) (g gk gd : Rho → O PyData) (ga : Rho → O (List PyData))
@[simp] theorem gMethL_ap : gMethL k m n f g ga ρ = (g ρ).bind fun d => if isOb k m d = true then (ga ρ).bind fun ds => if ds.length + 1 = n then (noEx (f (d :: ds))).bind listO else .bad else .bad := rfl
end
end Fn

set_option Elab.async false
set_option linter.all false
set_option maxRecDepth 100000
/-! Tables of whole numbers over a scale, turned: the mathematics. -/
namespace Tab
open PySem PySem.Spec L2 Fn
abbrev Tb := List (List Int)
def rowO (line about : List Int) (s : Int) (c : Nat) : List Int := (List.zipWith (fun n b => n * about.getD c 0 - b * line.getD c 0) line about).set c (-(line.getD c 0) * s)
def rowA (line : List Int) (s : Int) (c : Nat) : List Int := (line.map (· * s)).set c (s * s)
def com1 (g : Int) (l : List Int) : Int := l.foldl (fun g n => ((Nat.gcd g.natAbs n.natAbs : Nat) : Int)) g
def com (s : Int) (t : Tb) : Int := t.foldl com1 s
def dvs (s : Int) (t : Tb) : Int := if 0 < s then com s t else -com s t
def redT (t : Tb) (s : Int) : Tb := t.map (·.map (·.fdiv (dvs s t)))
def redS (t : Tb) (s : Int) : Int := s.fdiv (dvs s t)
def told (t : Tb) (s : Int) (r c : Nat) : Tb := (t.map fun l => rowO l (t.getD r []) s c).set r (rowA (t.getD r []) s c)
def turnT (t : Tb) (s : Int) (r c : Nat) : Tb := redT (told t s r c) (s * (t.getD r []).getD c 0)
def turnS (t : Tb) (s : Int) (r c : Nat) : Int := redS (told t s r c) (s * (t.getD r []).getD c 0)
def Rect (m n : Nat) (t : Tb) : Prop := t.length = m ∧ ∀ l ∈ t, l.length = n

/-! the common divisor -/
theorem com1_dvd : ∀ (l : List Int) (g : Int), com1 g l ∣ g ∧ ∀ n ∈ l, com1 g l ∣ n
  | [], g => ⟨Int.dvd_refl _, fun n h => by cases h⟩
  | x :: l, g => by
    have ih := com1_dvd l ((Nat.gcd g.natAbs x.natAbs : Nat) : Int)
    have e : com1 g (x :: l) = com1 ((Nat.gcd g.natAbs x.natAbs : Nat) : Int) l := rfl
    rw [e]
    have d1 : ((Nat.gcd g.natAbs x.natAbs : Nat) : Int) ∣ g := by
      refine Int.natAbs_dvd_natAbs.mp ?_
      rw [Int.natAbs_natCast]
      exact Nat.gcd_dvd_left _ _
    have d2 : ((Nat.gcd g.natAbs x.natAbs : Nat) : Int) ∣ x := by
      refine Int.natAbs_dvd_natAbs.mp ?_
      rw [Int.natAbs_natCast]
      exact Nat.gcd_dvd_right _ _
    refine ⟨Int.dvd_trans ih.1 d1, fun n h => ?_⟩
    rcases List.mem_cons.mp h with rfl | h
    · exact Int.dvd_trans ih.1 d2
    · exact ih.2 n h
theorem com_dvd : ∀ (t : Tb) (g : Int), com g t ∣ g ∧ ∀ l ∈ t, ∀ n ∈ l, com g t ∣ n
  | [], g => ⟨Int.dvd_refl _, fun n h => by cases h⟩
  | x :: t, g => by
    have ih := com_dvd t (com1 g x)
    have e : com g (x :: t) = com (com1 g x) t := rfl
    rw [e]
    have d := com1_dvd x g
    refine ⟨Int.dvd_trans ih.1 d.1, fun l h n hn => ?_⟩
    rcases List.mem_cons.mp h with rfl | h
    · exact Int.dvd_trans ih.1 (d.2 n hn)
    · exact ih.2 l h n hn
theorem dvd_com1 {e : Int} : ∀ (l : List Int) (g : Int), e ∣ g → (∀ n ∈ l, e ∣ n) → e ∣ com1 g l
  | [], g, h, _ => h
  | x :: l, g, h, hl => by
    have e' : com1 g (x :: l) = com1 ((Nat.gcd g.natAbs x.natAbs : Nat) : Int) l := rfl
    rw [e']
    refine dvd_com1 l _ ?_ fun n hn => hl n (List.mem_cons_of_mem _ hn)
    have h2 := hl x List.mem_cons_self
    rw [← Int.natAbs_dvd_natAbs] at h h2 ⊢
    exact Nat.dvd_gcd h h2
theorem dvd_com {e : Int} : ∀ (t : Tb) (g : Int), e ∣ g → (∀ l ∈ t, ∀ n ∈ l, e ∣ n) → e ∣ com g t
  | [], g, h, _ => h
  | x :: t, g, h, ht => dvd_com t _ (dvd_com1 x g h (ht x List.mem_cons_self)) fun l hl => ht l (List.mem_cons_of_mem _ hl)
theorem com1_nn : ∀ (l : List Int) (g : Int), 0 ≤ g → 0 ≤ com1 g l
  | [], g, h => h
  | x :: l, g, _ => com1_nn l _ (Int.natCast_nonneg _)
theorem com_nn0 : ∀ (t : Tb) (g : Int), 0 ≤ g → 0 ≤ com g t
  | [], g, h => h
  | x :: t, g, h => com_nn0 t _ (com1_nn x g h)
theorem com_nn (s : Int) (t : Tb) (ht : t ≠ []) (hl : ∀ l ∈ t, l ≠ []) : 0 ≤ com s t := by
  match t, ht with
  | l :: t, _ =>
    have := hl l List.mem_cons_self
    match l, this with
    | x :: l, _ => exact com_nn0 t _ (com1_nn l _ (Int.natCast_nonneg _))
theorem com_pos (s : Int) (t : Tb) (ht : t ≠ []) (hl : ∀ l ∈ t, l ≠ []) (hs : s ≠ 0) : 0 < com s t := by
  have h := com_nn s t ht hl
  have d := (com_dvd t s).1
  rcases Int.lt_or_eq_of_le h with h | h
  · exact h
  · rw [← h] at d
    exact absurd (Int.zero_dvd.mp d) hs
section
variable {s : Int} {t : Tb}
theorem dvs_ne (ht : t ≠ []) (hl : ∀ l ∈ t, l ≠ []) (hs : s ≠ 0) : dvs s t ≠ 0 := by
  have := com_pos s t ht hl hs
  unfold dvs
  split <;> omega
theorem dvs_dvd : dvs s t ∣ s ∧ ∀ l ∈ t, ∀ n ∈ l, dvs s t ∣ n := by
  have d := com_dvd t s
  unfold dvs
  split
  · exact d
  · exact ⟨Int.neg_dvd.mpr d.1, fun l hl n hn => Int.neg_dvd.mpr (d.2 l hl n hn)⟩
theorem fdiv_mul {a d : Int} (h : d ∣ a) : d * a.fdiv d = a := by
  rw [Int.fdiv_eq_ediv_of_dvd h]
  exact Int.mul_ediv_cancel' h
theorem redS_mul : dvs s t * redS t s = s := fdiv_mul dvs_dvd.1
theorem redS_pos (ht : t ≠ []) (hl : ∀ l ∈ t, l ≠ []) (hs : s ≠ 0) : 1 ≤ redS t s := by
  have h := redS_mul (s := s) (t := t)
  have g := com_pos s t ht hl hs
  have h0 : 0 < dvs s t * s := by
    unfold dvs
    split
    · exact Int.mul_pos g ‹_›
    · have : s < 0 := by omega
      have := Int.mul_pos g (show 0 < -s by omega)
      rw [Int.neg_mul]
      rw [Int.mul_neg] at this
      exact this
  by_cases h1 : 1 ≤ redS t s
  · exact h1
  · exfalso
    have e : dvs s t * s = dvs s t * dvs s t * redS t s := by
      rw [Int.mul_assoc, h]
    have p : 0 ≤ dvs s t * dvs s t := by
      rcases Int.le_total 0 (dvs s t) with z | z
      · exact Int.mul_nonneg z z
      · exact Int.mul_nonneg_of_nonpos_of_nonpos z z
    have : dvs s t * dvs s t * redS t s ≤ 0 := Int.mul_nonpos_of_nonneg_of_nonpos p (by omega)
    omega
theorem redT_get {i j : Nat} {l : List Int} (hi : t[i]? = some l) {n : Int} (hj : l[j]? = some n) : ∃ l' n', (redT t s)[i]? = some l' ∧ l'.length = l.length ∧ l'[j]? = some n' ∧ dvs s t * n' = n := by
  refine ⟨l.map (·.fdiv (dvs s t)), n.fdiv (dvs s t), ?_, List.length_map _, ?_, ?_⟩
  · unfold redT
    rw [List.getElem?_map, hi]
    rfl
  · rw [List.getElem?_map, hj]
    rfl
  · exact fdiv_mul (dvs_dvd.2 l (List.mem_of_getElem? hi) n (List.mem_of_getElem? hj))
theorem redT_rect {m n : Nat} (h : Rect m n t) : Rect m n (redT t s) := by
  refine ⟨by unfold redT; rw [List.length_map]; exact h.1, fun l hl => ?_⟩
  unfold redT at hl
  obtain ⟨l', h1, rfl⟩ := List.mem_map.mp hl
  rw [List.length_map]
  exact h.2 l' h1
/-- what divides all that is left is one or minus one -/
theorem red_gcd (ht : t ≠ []) (hl : ∀ l ∈ t, l ≠ []) (hs : s ≠ 0) {e : Int} (h1 : e ∣ redS t s) (h2 : ∀ l ∈ redT t s, ∀ n ∈ l, e ∣ n) : e ∣ 1 := by
  have a : dvs s t * e ∣ com s t := by
    refine dvd_com t s ?_ fun l hl' n hn => ?_
    · have := Int.mul_dvd_mul_left (dvs s t) h1
      rwa [redS_mul] at this
    · obtain ⟨i, hi⟩ := List.getElem?_of_mem hl'
      obtain ⟨j, hj⟩ := List.getElem?_of_mem hn
      obtain ⟨l', n', k1, _, k3, k4⟩ := redT_get (s := s) hi hj
      have := Int.mul_dvd_mul_left (dvs s t) (h2 l' (List.mem_of_getElem? k1) n' (List.mem_of_getElem? k3))
      rwa [k4] at this
  have b : dvs s t ∣ dvs s t ∧ com s t ∣ dvs s t := ⟨Int.dvd_refl _, by unfold dvs; split; exact Int.dvd_refl _; exact Int.dvd_neg.mpr (Int.dvd_refl _)⟩
  have c := Int.dvd_trans a b.2
  have d : dvs s t * e ∣ dvs s t * 1 := by rw [Int.mul_one]; exact c
  exact Int.dvd_of_mul_dvd_mul_left (dvs_ne ht hl hs) d
end
/-! the numbers told -/
section
variable {t : Tb} {s : Int} {r c m n : Nat}
theorem rect_get (h : Rect m n t) {i : Nat} (hi : i < m) : ∃ l, t[i]? = some l ∧ l.length = n := by
  have hi' : i < t.length := by rw [h.1]; exact hi
  exact ⟨t[i], List.getElem?_eq_getElem hi', h.2 _ (List.getElem_mem hi')⟩
theorem getD_of {α : Type} {l : List α} {i : Nat} {x d : α} (h : l[i]? = some x) : l.getD i d = x := by
  rw [List.getD_eq_getElem?_getD, h]
  rfl
theorem rowO_len (l a : List Int) (h : l.length = n) (h2 : a.length = n) : (rowO l a s c).length = n := by
  unfold rowO
  rw [List.length_set, List.length_zipWith, h, h2, Nat.min_self]
theorem rowA_len (l : List Int) (h : l.length = n) : (rowA l s c).length = n := by
  unfold rowA
  rw [List.length_set, List.length_map, h]
theorem told_rect (h : Rect m n t) (hr : r < m) : Rect m n (told t s r c) := by
  obtain ⟨a, ha, la⟩ := rect_get h hr
  have ea := getD_of (d := []) ha
  refine ⟨by unfold told; rw [List.length_set, List.length_map]; exact h.1, fun l hl => ?_⟩
  unfold told at hl
  rw [ea] at hl
  rcases List.mem_or_eq_of_mem_set hl with hl | rfl
  · obtain ⟨l', h1, rfl⟩ := List.mem_map.mp hl
    exact rowO_len _ _ (h.2 _ h1) la
  · exact rowA_len _ la
/-- the number told at a place -/
def cel (t : Tb) (i j : Nat) : Int := (t.getD i []).getD j 0
theorem cel_of {l : List Int} {i j : Nat} {x : Int} (h : t[i]? = some l) (h2 : l[j]? = some x) : cel t i j = x := by
  unfold cel
  rw [getD_of h, getD_of h2]
theorem told_cel (h : Rect m n t) (hr : r < m) {i j : Nat} (hi : i < m) (hj : j < n) (hc : c < n) :
    ∃ l, (told t s r c)[i]? = some l ∧ l.length = n ∧ l[j]? = some (if i = r then (if j = c then s * s else cel t r j * s) else if j = c then -(cel t i c) * s else cel t i j * cel t r c - cel t r j * cel t i c) := by
  obtain ⟨a, ha, la⟩ := rect_get h hr
  obtain ⟨b, hb, lb⟩ := rect_get h hi
  have ea := getD_of (d := []) ha
  have aj : a[j]? = some (a[j]'(by omega)) := List.getElem?_eq_getElem _
  have ac : a[c]? = some (a[c]'(by omega)) := List.getElem?_eq_getElem _
  have bj : b[j]? = some (b[j]'(by omega)) := List.getElem?_eq_getElem _
  have bc : b[c]? = some (b[c]'(by omega)) := List.getElem?_eq_getElem _
  by_cases e : i = r
  · subst e
    refine ⟨rowA a s c, ?_, rowA_len _ la, ?_⟩
    · unfold told
      rw [List.getElem?_set_self (by rw [List.length_map, h.1]; exact hi), ea]
    · rw [if_pos rfl]
      unfold rowA
      by_cases f : j = c
      · subst f
        rw [if_pos rfl, List.getElem?_set_self (by rw [List.length_map]; omega)]
      · rw [if_neg f, List.getElem?_set_ne (fun z => f z.symm), List.getElem?_map, aj, cel_of ha aj]
        rfl
  · refine ⟨rowO b a s c, ?_, rowO_len _ _ lb la, ?_⟩
    · unfold told
      rw [List.getElem?_set_ne (fun z => e z.symm), List.getElem?_map, hb, ea]
      rfl
    · rw [if_neg e]
      unfold rowO
      by_cases f : j = c
      · subst f
        rw [if_pos rfl, List.getElem?_set_self (by rw [List.length_zipWith]; omega), cel_of hb bj, getD_of bj]
      · rw [if_neg f, List.getElem?_set_ne (fun z => f z.symm), List.getElem?_zipWith, aj, bj, cel_of hb bj, cel_of hb bc, cel_of ha aj, cel_of ha ac, getD_of ac, getD_of bc]
/-- the turned table: its numbers times the divisor are the ones told -/
theorem turn_cel (h : Rect m n t) (hr : r < m) (hc : c < n) (hs : s ≠ 0) (hp : cel t r c ≠ 0) :
    ∃ d : Int, d ≠ 0 ∧ d * turnS t s r c = s * cel t r c ∧ 1 ≤ turnS t s r c ∧ Rect m n (turnT t s r c) ∧
      (∀ i j, i < m → j < n → d * cel (turnT t s r c) i j = if i = r then (if j = c then s * s else cel t r j * s) else if j = c then -(cel t i c) * s else cel t i j * cel t r c - cel t r j * cel t i c) ∧
      ∀ e : Int, e ∣ turnS t s r c → (∀ i j, i < m → j < n → e ∣ cel (turnT t s r c) i j) → e ∣ 1 := by
  have R := told_rect (s := s) (r := r) (c := c) h hr
  have ne : told t s r c ≠ [] := fun z => by
    have := R.1
    rw [z] at this
    simp at this
    omega
  have nl : ∀ l ∈ told t s r c, l ≠ [] := fun l hl z => by
    have := R.2 l hl
    rw [z] at this
    simp at this
    omega
  have hs2 : s * cel t r c ≠ 0 := Int.mul_ne_zero hs hp
  have RR := redT_rect (s := s * cel t r c) R
  refine ⟨dvs (s * cel t r c) (told t s r c), dvs_ne ne nl hs2, redS_mul, redS_pos ne nl hs2, RR, fun i j hi hj => ?_, fun e h1 h2 => ?_⟩
  · obtain ⟨l, h1, h2, h3⟩ := told_cel (s := s) (r := r) (c := c) h hr hi hj hc
    obtain ⟨l', n', k1, _, k3, k4⟩ := redT_get (s := s * cel t r c) h1 h3
    rw [← k4]
    congr 1
    exact cel_of k1 k3
  · refine red_gcd ne nl hs2 h1 fun l hl x hx => ?_
    obtain ⟨i, hi⟩ := List.getElem?_of_mem hl
    obtain ⟨j, hj⟩ := List.getElem?_of_mem hx
    have q := h2 i j (by rw [← RR.1]; exact (List.getElem?_eq_some_iff.mp hi).1) (by rw [← RR.2 l hl]; exact (List.getElem?_eq_some_iff.mp hj).1)
    have : cel (turnT t s r c) i j = x := cel_of hi hj
    rwa [this] at q
end
end Tab

set_option Elab.async false
set_option linter.all false
set_option maxRecDepth 100000
namespace K11
open PySem PySem.Spec L2 Fn
def topS (i : Nat) : Stmt := PySem.Challenge.pw_wholecut_k11_halves.main.body.getD i (.Pass ⟨0, 0, 0, 0⟩)
structure Top (K : PySem.W.Frag) (mg : Str → Option Value) (xc cls : Nat → Addr) : Prop where
  n_all : mg "all" = none
  n_bool : mg "bool" = none
  n_enumerate : mg "enumerate" = none
  n_int : mg "int" = none
  n_isinstance : mg "isinstance" = none
  n_len : mg "len" = none
  n_list : mg "list" = none
  n_max : mg "max" = none
  n_min : mg "min" = none
  n_range : mg "range" = none
  n_sorted : mg "sorted" = none
  n_str : mg "str" = none
  n_sum : mg "sum" = none
  n_tuple : mg "tuple" = none
  n_zip : mg "zip" = none
  m_gcd : mg "gcd" = some (.builtin "math.gcd")
  i_MOST_UNKNOWNS : IntAt mg "MOST_UNKNOWNS" (3)
  i_GREATEST_TOP : IntAt mg "GREATEST_TOP" (20)
  i_MOST_ROWS : IntAt mg "MOST_ROWS" (6)
  i_GREATEST_NUMBER : IntAt mg "GREATEST_NUMBER" (50)
  i_GREATEST_BOUND : IntAt mg "GREATEST_BOUND" (2000)
  e_CutError : ExcAt K mg "CutError" (xc 0)
  e_BadProblem : ExcAt K mg "BadProblem" (xc 1)
  e_BadPoint : ExcAt K mg "BadPoint" (xc 2)
  e_BadBox : ExcAt K mg "BadBox" (xc 3)
  e_NoTurn : ExcAt K mg "NoTurn" (xc 4)
  cl0 : Cls K (cls 0)
  mc_Problem : mg "Problem" = some (.ref (cls 0))
  na_tops : NoAttr K (cls 0) "tops"
  na_rows : NoAttr K (cls 0) "rows"
  na_gain : NoAttr K (cls 0) "gain"
  cl1 : Cls K (cls 1)
  mc_Corner : mg "Corner" = some (.ref (cls 1))
  na_tight : NoAttr K (cls 1) "tight"
  na_others : NoAttr K (cls 1) "others"
  na_table : NoAttr K (cls 1) "table"
  na_scale : NoAttr K (cls 1) "scale"
  d_is_whole : DefAt K mg "is_whole" (topS 8) ["thing"]
  d_is_within : DefAt K mg "is_within" (topS 9) ["thing", "least", "greatest"]
  d_are_within : DefAt K mg "are_within" (topS 10) ["things", "least", "greatest"]
  d_products_sum : DefAt K mg "products_sum" (topS 11) ["numbers", "others"]
  d_whole_box : DefAt K mg "whole_box" (topS 13) ["problem"]
  d_facts : DefAt K mg "facts" (topS 14) ["problem", "box"]
  d_row_fact : DefAt K mg "row_fact" (topS 15) ["row"]
  d_only : DefAt K mg "only" (topS 16) ["unknown", "number", "unknowns"]
  d_check_box : DefAt K mg "check_box" (topS 17) ["problem", "box"]
  d_is_box : DefAt K mg "is_box" (topS 18) ["problem", "box"]
  d_is_span : DefAt K mg "is_span" (topS 19) ["span", "top"]
  d_turned : DefAt K mg "turned" (topS 21) ["table", "scale", "row", "column"]
  d_about_row : DefAt K mg "about_row" (topS 22) ["line", "scale", "column"]
  d_other_row : DefAt K mg "other_row" (topS 23) ["line", "about_line", "scale", "column"]
  d_reduced : DefAt K mg "reduced" (topS 24) ["table", "scale"]
  d_loose : DefAt K mg "loose" (topS 26) ["problem", "box"]
  d_slack_line : DefAt K mg "slack_line" (topS 28) ["fact", "signs", "ends"]
  d_gain_line : DefAt K mg "gain_line" (topS 29) ["gain", "signs", "ends"]
  d_is_problem : DefAt K mg "is_problem" (topS 37) ["tops", "rows", "gain"]
  d_are_tops : DefAt K mg "are_tops" (topS 38) ["tops"]
  d_are_rows : DefAt K mg "are_rows" (topS 39) ["rows", "unknowns"]
  d_is_row : DefAt K mg "is_row" (topS 40) ["row", "unknowns"]
  d_is_word : DefAt K mg "is_word" (topS 41) ["word"]
  d_is_gain : DefAt K mg "is_gain" (topS 42) ["gain", "unknowns"]
  d_are_numbers : DefAt K mg "are_numbers" (topS 43) ["numbers", "unknowns"]
  d_is_point : DefAt K mg "is_point" (topS 44) ["problem", "point"]
  d_check_point : DefAt K mg "check_point" (topS 45) ["problem", "point"]
  d_gained : DefAt K mg "gained" (topS 46) ["problem", "point"]
  d_solved : DefAt K mg "solved" (topS 48) ["problem"]
  d_grown : DefAt K mg "grown" (topS 49) ["problem", "box", "best"]
  d_broken_unknown : DefAt K mg "broken_unknown" (topS 50) ["numbers", "divisor"]
  d_box_below : DefAt K mg "box_below" (topS 51) ["box", "unknown", "at"]
  d_box_above : DefAt K mg "box_above" (topS 52) ["box", "unknown", "at"]
  d_with_span : DefAt K mg "with_span" (topS 53) ["box", "unknown", "span"]
  d__law_cell_at : DefAt K mg "_law_cell_at" (topS 55) ["_law_script", "_law_k"]
  d__law_whole : DefAt K mg "_law_whole" (topS 56) ["_law_found"]
  d__law_number : DefAt K mg "_law_number" (topS 57) ["_law_cell", "_law_kind_here"]
  d__law_bound : DefAt K mg "_law_bound" (topS 58) ["_law_cell", "_law_kind_here"]
  d__law_tops : DefAt K mg "_law_tops" (topS 59) ["_law_script"]
  d__law_kind : DefAt K mg "_law_kind" (topS 60) ["_law_script"]
  d__law_gain : DefAt K mg "_law_gain" (topS 61) ["_law_script"]
  d__law_rows : DefAt K mg "_law_rows" (topS 62) ["_law_script"]
  d__law_sum : DefAt K mg "_law_sum" (topS 63) ["_law_numbers", "_law_point"]
  d__law_meets : DefAt K mg "_law_meets" (topS 64) ["_law_tops_here", "_law_rows_here", "_law_point"]
  d__law_gain_of : DefAt K mg "_law_gain_of" (topS 65) ["_law_tops_here", "_law_rows_here", "_law_gain_here"]
  d_law : DefAt K mg "law" (topS 66) ["_law_script"]
  me_Corner_missed_row : MethAt K (cls 1) "missed_row" "Corner.missed_row" (inClass (topS 27) 1) ["self"]
  me_Corner_column_for : MethAt K (cls 1) "column_for" "Corner.column_for" (inClass (topS 27) 2) ["self", "row"]
  me_Corner_move : MethAt K (cls 1) "move" "Corner.move" (inClass (topS 27) 3) ["self", "row", "column"]
  me_Corner_numbers : MethAt K (cls 1) "numbers" "Corner.numbers" (inClass (topS 27) 4) ["self", "problem", "box"]
  me_Corner_gain_weights : MethAt K (cls 1) "gain_weights" "Corner.gain_weights" (inClass (topS 27) 5) ["self"]
  me_Corner_none_weights : MethAt K (cls 1) "none_weights" "Corner.none_weights" (inClass (topS 27) 6) ["self", "row"]
  me_Corner_weights : MethAt K (cls 1) "weights" "Corner.weights" (inClass (topS 27) 7) ["self", "line"]
section
variable {P : Program} {w : World} {K : PySem.W.Frag} {mg : Str → Option Value} {base : Heap} {cls xc : Nat → Addr}
/-! ### is_whole -/
abbrev st_is_whole : Stmt := topS 8
theorem sc_is_whole : FnScope ["thing"] ["thing"] (defScope st_is_whole) := ⟨rfl, rfl, rfl, by decide +kernel, rfl, by decide +kernel, by decide +kernel⟩
def g_is_whole : Rho → R :=
    (gRet (gAndV (gIsi "int" (gVar 0)) (gNotV (gIsi "bool" (gVar 0)))))
def f_is_whole : List PyData → O PyData := fnG 1 g_is_whole
theorem ok_is_whole (T : Top K mg xc cls) : OkAt P w K mg base cls xc "is_whole" ["thing"] 1 1 f_is_whole :=
  okAt_of T.d_is_whole sc_is_whole g_is_whole [] fun f cdv A outer s H E F0 hr => ⟨_, (pss_one (ps_ret (pe_and (pe_callB call_isi (by rfl) T.n_isinstance bt_isinstance (pa_cons (pv 0) (pa_cons (pe_bltn (v := .ty "int") (by rfl) T.n_int bt_int rfl) pa_nil))) (pe_one (pe_not (pe_callB call_isi (by rfl) T.n_isinstance bt_isinstance (pa_cons (pv 0) (pa_cons (pe_bltn (v := .ty "bool") (by rfl) T.n_bool bt_bool rfl) pa_nil)))))))),
    (fs_ret (fe_and (fe_isi kit_int (fe_var rfl)) (fe_not (fe_isi kit_bool (fe_var rfl)))))⟩
/-! ### is_within -/
abbrev st_is_within : Stmt := topS 9
theorem sc_is_within : FnScope ["thing", "least", "greatest"] ["thing", "least", "greatest"] (defScope st_is_within) := ⟨rfl, rfl, rfl, by decide +kernel, rfl, by decide +kernel, by decide +kernel⟩
def g_is_within : Rho → R :=
    (gRet (gAndV (gFn 1 f_is_whole (gConsA (gVar 0) gNilA)) (gChain dLe dLe (gVar 1) (gVar 0) (gVar 2))))
def f_is_within : List PyData → O PyData := fnG 3 g_is_within
theorem ok_is_within (T : Top K mg xc cls) : OkAt P w K mg base cls xc "is_within" ["thing", "least", "greatest"] 3 2 f_is_within :=
  okAt_of T.d_is_within sc_is_within g_is_within [] fun f cdv A outer s H E F0 hr => ⟨_, (pss_one (ps_ret (pe_and (pe_callO (ok_is_whole T) hr (by decide) (by rfl) (takes_of rfl rfl rfl rfl) (pa_cons (pv 0) pa_nil)) (pe_one (pe_chain op_le op_le (pv 1) (pv 0) (pv 2)))))),
    (fs_ret (fe_and (fe_call rfl (fa_cons (fe_var rfl) fa_nil)) (fe_chain opf_le opf_le (fe_var rfl) (fe_var rfl) (fe_var rfl))))⟩
/-! ### are_within -/
abbrev st_are_within : Stmt := topS 10
theorem sc_are_within : FnScope ["things", "least", "greatest", "thing"] ["things", "least", "greatest"] (defScope st_are_within) := ⟨rfl, rfl, rfl, by decide +kernel, rfl, by decide +kernel, by decide +kernel⟩
def g_are_within : Rho → R :=
    (gRet (gB bAll (gConsA (gComp [3] (aName 3) gYes (gFn 3 f_is_within (gConsA (gVar 3) (gConsA (gVar 1) (gConsA (gVar 2) gNilA)))) (gItA (gVar 0))) gNilA)))
def f_are_within : List PyData → O PyData := fnG 4 g_are_within
theorem ok_are_within (T : Top K mg xc cls) : OkAt P w K mg base cls xc "are_within" ["things", "least", "greatest"] 3 3 f_are_within :=
  okAt_of T.d_are_within sc_are_within g_are_within [] fun f cdv A outer s H E F0 hr => ⟨_, (pss_one (ps_ret (pe_callB (cr_all rfl) (by rfl) T.n_all bt_all (pa_cons (pe_lc (own := [("thing", 3)]) rfl sc_are_within.nd (pi_any (pv 0)) (blkOk_by (N := ["things", "least", "greatest", "thing"]) (sc := defScope st_are_within) (own := [("thing", 3)]) (by decide +kernel)) (fun _ _ _ _ _ => (pg_name (i := 3) sc_are_within.nd rfl (by first | exact Or.inl rfl | exact Or.inr rfl))) (fun _ _ _ _ _ => pts_nil) (fun _ _ _ _ _ => (pe_callO (ok_is_within T) hr (by decide) (by rfl) takes0 (pa_cons (pv 3) (pa_cons (pv 1) (pa_cons (pv 2) pa_nil)))))) pa_nil)))),
    (fs_ret (fe_callB cf_all (fa_cons (fe_comp (vs := [3]) (fi_any (fe_var rfl)) (fc_name rfl rfl) aName_ex ft_yes (fe_call rfl (fa_cons (fe_var rfl) (fa_cons (fe_var rfl) (fa_cons (fe_var rfl) fa_nil))))) fa_nil)))⟩
/-! ### products_sum -/
abbrev st_products_sum : Stmt := topS 11
theorem sc_products_sum : FnScope ["numbers", "others", "number", "other"] ["numbers", "others"] (defScope st_products_sum) := ⟨rfl, rfl, rfl, by decide +kernel, rfl, by decide +kernel, by decide +kernel⟩
def g_products_sum : Rho → R :=
    (gRet (gB bSum (gConsA (gComp [2, 3] (aTup (aCons (aName 2) (aCons (aName 3) aNil))) gYes (gMul (gVar 2) (gVar 3)) (gZipM (gConsA (gVar 0) (gConsA (gVar 1) gNilA)))) gNilA)))
def f_products_sum : List PyData → O PyData := fnG 4 g_products_sum
theorem ok_products_sum (T : Top K mg xc cls) : OkAt P w K mg base cls xc "products_sum" ["numbers", "others"] 2 1 f_products_sum :=
  okAt_of T.d_products_sum sc_products_sum g_products_sum [] fun f cdv A outer s H E F0 hr => ⟨_, (pss_one (ps_ret (pe_callB (cr_sum rfl) (by rfl) T.n_sum bt_sum (pa_cons (pe_lc (own := [("number", 2), ("other", 3)]) rfl sc_products_sum.nd (FnZ.pi_zipM (by rfl) T.n_zip (pa_cons (pv 0) (pa_cons (pv 1) pa_nil))) (blkOk_by (N := ["numbers", "others", "number", "other"]) (sc := defScope st_products_sum) (own := [("number", 2), ("other", 3)]) (by decide +kernel)) (fun _ _ _ _ _ => (pg_tup (by rfl) (pgs_cons (pg_name (i := 2) sc_products_sum.nd rfl (by first | exact Or.inl rfl | exact Or.inr rfl)) (pgs_cons (pg_name (i := 3) sc_products_sum.nd rfl (by first | exact Or.inl rfl | exact Or.inr rfl)) pgs_nil)))) (fun _ _ _ _ _ => pts_nil) (fun _ _ _ _ _ => (pe_op op_mulAll (pv 2) (pv 3)))) pa_nil)))),
    (fs_ret (fe_callB cf_sum (fa_cons (fe_comp (vs := [2, 3]) (fi_zipM (fa_cons (fe_var rfl) (fa_cons (fe_var rfl) fa_nil))) (fc_tup (fcs_cons (fc_name rfl rfl) (fcs_cons (fc_name rfl rfl) fcs_nil)) (aCons_len (aCons_len aNil_len aName_ex) aName_ex)) (aTup_ex (aCons_ex aName_ex (aCons_ex aName_ex aNil_ex))) ft_yes (fe_op opf_mul (fe_var rfl) (fe_var rfl))) fa_nil)))⟩
/-! ### whole_box -/
abbrev st_whole_box : Stmt := topS 13
theorem sc_whole_box : FnScope ["problem", "top"] ["problem"] (defScope st_whole_box) := ⟨rfl, rfl, rfl, by decide +kernel, rfl, by decide +kernel, by decide +kernel⟩
def g_whole_box : Rho → R :=
    (gRet (gComp [1] (aName 1) gYes (gTup (gConsA (gC (.int 0)) (gConsA (gVar 1) gNilA))) (gItA (gFld "tops" 0 (gVar 0)))))
def f_whole_box : List PyData → O PyData := fnG 2 g_whole_box
theorem okn_whole_box (T : Top K mg xc cls) : OkNAt P w K mg base cls xc "whole_box" ["problem"] 1 1 f_whole_box :=
  okNAt_of T.d_whole_box sc_whole_box g_whole_box [] fun f cdv A outer s H E F0 hr => ⟨_, (pss_one (ps_ret (pe_lc (own := [("top", 1)]) rfl sc_whole_box.nd (pi_any (pe_fld (pv 0) rfl)) (blkOk_by (N := ["problem", "top"]) (sc := defScope st_whole_box) (own := [("top", 1)]) (by decide +kernel)) (fun _ _ _ _ _ => (pg_name (i := 1) sc_whole_box.nd rfl (by first | exact Or.inl rfl | exact Or.inr rfl))) (fun _ _ _ _ _ => pts_nil) (fun _ _ _ _ _ => (pe_tup (pa_cons pe_int (pa_cons (pv 1) pa_nil))))))),
    (fs_retO (fo_comp (vs := [1]) (fi_any (fe_fld T.cl0 T.na_tops (fe_var rfl))) (fc_name rfl rfl) aName_ex ft_yes (fe_tup (fa_cons (fe_int 0) (fa_cons (fe_var rfl) fa_nil)))) gComp_list)⟩
/-! ### is_span -/
abbrev st_is_span : Stmt := topS 19
theorem sc_is_span : FnScope ["span", "top", "least", "greatest"] ["span", "top"] (defScope st_is_span) := ⟨rfl, rfl, rfl, by decide +kernel, rfl, by decide +kernel, by decide +kernel⟩
def g_is_span : Rho → R :=
    (gSeq (gIfS (gOrT (gNotT (gTru (gIsi "tuple" (gVar 0)))) (gBl (gNe (gB bLen (gConsA (gVar 0) gNilA)) (gC (.int 2))))) (gRet (gC (.bool false))) gNext)
    (gSeq (gAsg (aTup (aCons (aName 2) (aCons (aName 3) aNil))) (gVar 0))
    (gRet (gAndV (gFn 3 f_is_within (gConsA (gVar 2) (gConsA (gC (.int 0)) (gConsA (gVar 1) gNilA)))) (gFn 3 f_is_within (gConsA (gVar 3) (gConsA (gVar 2) (gConsA (gVar 1) gNilA))))))))
def f_is_span : List PyData → O PyData := fnG 4 g_is_span
theorem ok_is_span (T : Top K mg xc cls) : OkAt P w K mg base cls xc "is_span" ["span", "top"] 2 3 f_is_span :=
  okAt_of T.d_is_span sc_is_span g_is_span [] fun f cdv A outer s H E F0 hr => ⟨_, (pss_cons (ps_if (PW.pt (pw_or (pt_not (pt_truth (pe_callB call_isi (by rfl) T.n_isinstance bt_isinstance (pa_cons (pv 0) (pa_cons (pe_bltn (v := .ty "tuple") (by rfl) T.n_tuple bt_tuple rfl) pa_nil))) (by intro _; rfl))) (pw_or1 (pt_cmpR (op_neAll hr.units) (pe_callB call_len (by rfl) T.n_len bt_len (pa_cons (pv 0) pa_nil)) pe_int (nomark _))))) (pss_one (ps_ret pe_bl)) pss_nil)
      (pss_cons (ps_asg (pv 0) (pg_tup (by rfl) (pgs_cons (pg_name (i := 2) sc_is_span.nd rfl (by first | exact Or.inl rfl | exact Or.inr rfl)) (pgs_cons (pg_name (i := 3) sc_is_span.nd rfl (by first | exact Or.inl rfl | exact Or.inr rfl)) pgs_nil))))
      (pss_one (ps_ret (pe_and (pe_callO (ok_is_within T) hr (by decide) (by rfl) (takes_of rfl rfl rfl rfl) (pa_cons (pv 2) (pa_cons pe_int (pa_cons (pv 1) pa_nil)))) (pe_one (pe_callO (ok_is_within T) hr (by decide) (by rfl) (takes_of rfl rfl rfl rfl) (pa_cons (pv 3) (pa_cons (pv 2) (pa_cons (pv 1) pa_nil)))))))))),
    (fs_seq (own1 := []) (fs_if (own' := []) (ft_or (ft_not (ft_truth (fe_isi kit_tuple (fe_var rfl)))) (ft_test (fe_op opf_ne (fe_callB cf_len (fa_cons (fe_var rfl) fa_nil)) (fe_int 2)))) (fs_ret (fe_bool false)) fs_next)
      (fs_seq (own1 := []) (fs_asg (fe_var rfl) (fg_tup (fgs_cons (fg_name rfl) (fgs_cons (fg_name rfl) fgs_nil)) (aCons_len (aCons_len aNil_len aName_ex) aName_ex)) (aTup_ex (aCons_ex aName_ex (aCons_ex aName_ex aNil_ex))))
      (fs_ret (fe_and (fe_call rfl (fa_cons (fe_var rfl) (fa_cons (fe_int 0) (fa_cons (fe_var rfl) fa_nil)))) (fe_call rfl (fa_cons (fe_var rfl) (fa_cons (fe_var rfl) (fa_cons (fe_var rfl) fa_nil))))))))⟩
/-! ### is_box -/
abbrev st_is_box : Stmt := topS 18
theorem sc_is_box : FnScope ["problem", "box", "span", "top"] ["problem", "box"] (defScope st_is_box) := ⟨rfl, rfl, rfl, by decide +kernel, rfl, by decide +kernel, by decide +kernel⟩
def g_is_box : Rho → R :=
    (gSeq (gIfS (gOrT (gNotT (gTru (gIsi "list" (gVar 1)))) (gBl (gNe (gB bLen (gConsA (gVar 1) gNilA)) (gB bLen (gConsA (gFld "tops" 0 (gVar 0)) gNilA))))) (gRet (gC (.bool false))) gNext)
    (gRet (gB bAll (gConsA (gComp [2, 3] (aTup (aCons (aName 2) (aCons (aName 3) aNil))) gYes (gFn 2 f_is_span (gConsA (gVar 2) (gConsA (gVar 3) gNilA))) (gZipM (gConsA (gVar 1) (gConsA (gFld "tops" 0 (gVar 0)) gNilA)))) gNilA))))
def f_is_box : List PyData → O PyData := fnG 4 g_is_box
theorem ok_is_box (T : Top K mg xc cls) : OkAt P w K mg base cls xc "is_box" ["problem", "box"] 2 4 f_is_box :=
  okAt_of T.d_is_box sc_is_box g_is_box [] fun f cdv A outer s H E F0 hr => ⟨_, (pss_cons (ps_if (PW.pt (pw_or (pt_not (pt_truth (pe_callB call_isi (by rfl) T.n_isinstance bt_isinstance (pa_cons (pv 1) (pa_cons (pe_bltn (v := .ty "list") (by rfl) T.n_list bt_list rfl) pa_nil))) (by intro _; rfl))) (pw_or1 (pt_cmpR (op_neAll hr.units) (pe_callB call_len (by rfl) T.n_len bt_len (pa_cons (pv 1) pa_nil)) (pe_callB call_len (by rfl) T.n_len bt_len (pa_cons (pe_fld (pv 0) rfl) pa_nil)) (nomark _))))) (pss_one (ps_ret pe_bl)) pss_nil)
      (pss_one (ps_ret (pe_callB (cr_all rfl) (by rfl) T.n_all bt_all (pa_cons (pe_lc (own := [("span", 2), ("top", 3)]) rfl sc_is_box.nd (FnZ.pi_zipM (by rfl) T.n_zip (pa_cons (pv 1) (pa_cons (pe_fld (pv 0) rfl) pa_nil))) (blkOk_by (N := ["problem", "box", "span", "top"]) (sc := defScope st_is_box) (own := [("span", 2), ("top", 3)]) (by decide +kernel)) (fun _ _ _ _ _ => (pg_tup (by rfl) (pgs_cons (pg_name (i := 2) sc_is_box.nd rfl (by first | exact Or.inl rfl | exact Or.inr rfl)) (pgs_cons (pg_name (i := 3) sc_is_box.nd rfl (by first | exact Or.inl rfl | exact Or.inr rfl)) pgs_nil)))) (fun _ _ _ _ _ => pts_nil) (fun _ _ _ _ _ => (pe_callO (ok_is_span T) hr (by decide) (by rfl) takes0 (pa_cons (pv 2) (pa_cons (pv 3) pa_nil))))) pa_nil))))),
    (fs_seq (own1 := []) (fs_if (own' := []) (ft_or (ft_not (ft_truth (fe_isi kit_list (fe_var rfl)))) (ft_test (fe_op opf_ne (fe_callB cf_len (fa_cons (fe_var rfl) fa_nil)) (fe_callB cf_len (fa_cons (fe_fld T.cl0 T.na_tops (fe_var rfl)) fa_nil))))) (fs_ret (fe_bool false)) fs_next)
      (fs_ret (fe_callB cf_all (fa_cons (fe_comp (vs := [2, 3]) (fi_zipM (fa_cons (fe_var rfl) (fa_cons (fe_fld T.cl0 T.na_tops (fe_var rfl)) fa_nil))) (fc_tup (fcs_cons (fc_name rfl rfl) (fcs_cons (fc_name rfl rfl) fcs_nil)) (aCons_len (aCons_len aNil_len aName_ex) aName_ex)) (aTup_ex (aCons_ex aName_ex (aCons_ex aName_ex aNil_ex))) ft_yes (fe_call rfl (fa_cons (fe_var rfl) (fa_cons (fe_var rfl) fa_nil)))) fa_nil))))⟩
/-! ### check_box -/
abbrev st_check_box : Stmt := topS 17
theorem sc_check_box : FnScope ["problem", "box"] ["problem", "box"] (defScope st_check_box) := ⟨rfl, rfl, rfl, by decide +kernel, rfl, by decide +kernel, by decide +kernel⟩
def g_check_box : Rho → R :=
    (gIfS (gNotT (gTru (gFn 2 f_is_box (gConsA (gVar 0) (gConsA (gVar 1) gNilA))))) (gRaise 3) gNext)
def f_check_box : List PyData → O PyData := fnG 2 g_check_box
theorem ok_check_box (T : Top K mg xc cls) : OkAt P w K mg base cls xc "check_box" ["problem", "box"] 2 5 f_check_box :=
  okAt_of T.d_check_box sc_check_box g_check_box [] fun f cdv A outer s H E F0 hr => ⟨_, (pss_one (ps_if (pt_not (pt_truth (pe_callO (ok_is_box T) hr (by decide) (by rfl) (takes_of rfl rfl rfl rfl) (pa_cons (pv 0) (pa_cons (pv 1) pa_nil))) (by intro _; rfl))) (pss_one (ps_raiseO rfl (takes_of rfl rfl rfl rfl) T.e_BadBox (by rfl))) pss_nil)),
    (fs_if (own' := []) (ft_not (ft_truth (fe_call rfl (fa_cons (fe_var rfl) (fa_cons (fe_var rfl) fa_nil))))) (fs_raise (n := 3) rfl rfl) fs_next)⟩
/-! ### row_fact -/
abbrev st_row_fact : Stmt := topS 15
theorem sc_row_fact : FnScope ["row", "numbers", "word", "bound", "number"] ["row"] (defScope st_row_fact) := ⟨rfl, rfl, rfl, by decide +kernel, rfl, by decide +kernel, by decide +kernel⟩
def g_row_fact : Rho → R :=
    (gSeq (gAsg (aTup (aCons (aName 1) (aCons (aName 2) (aCons (aName 3) aNil)))) (gVar 0))
    (gSeq (gIfS (gBl (gEq (gVar 2) (gC (.str "most")))) (gRet (gTup (gConsA (gVar 1) (gConsA (gVar 3) gNilA)))) gNext)
    (gRet (gTup (gConsA (gB bTup (gConsA (gComp [4] (aName 4) gYes (gNeg (gVar 4)) (gItA (gVar 1))) gNilA)) (gConsA (gNeg (gVar 3)) gNilA))))))
def f_row_fact : List PyData → O PyData := fnG 5 g_row_fact
theorem ok_row_fact (T : Top K mg xc cls) : OkAt P w K mg base cls xc "row_fact" ["row"] 1 1 f_row_fact :=
  okAt_of T.d_row_fact sc_row_fact g_row_fact [] fun f cdv A outer s H E F0 hr => ⟨_, (pss_cons (ps_asg (pv 0) (pg_tup (by rfl) (pgs_cons (pg_name (i := 1) sc_row_fact.nd rfl (by first | exact Or.inl rfl | exact Or.inr rfl)) (pgs_cons (pg_name (i := 2) sc_row_fact.nd rfl (by first | exact Or.inl rfl | exact Or.inr rfl)) (pgs_cons (pg_name (i := 3) sc_row_fact.nd rfl (by first | exact Or.inl rfl | exact Or.inr rfl)) pgs_nil)))))
      (pss_cons (ps_if (pt_cmpR (op_eqAll hr.units) (pv 2) pe_str (nomark _)) (pss_one (ps_ret (pe_tup (pa_cons (pv 1) (pa_cons (pv 3) pa_nil))))) pss_nil)
      (pss_one (ps_ret (pe_tup (pa_cons (pe_callTy call_tuple_of (by rfl) T.n_tuple bt_tuple (pa_cons (pe_lc (own := [("number", 4)]) rfl sc_row_fact.nd (pi_any (pv 1)) (blkOk_by (N := ["row", "numbers", "word", "bound", "number"]) (sc := defScope st_row_fact) (own := [("number", 4)]) (by decide +kernel)) (fun _ _ _ _ _ => (pg_name (i := 4) sc_row_fact.nd rfl (by first | exact Or.inl rfl | exact Or.inr rfl))) (fun _ _ _ _ _ => pts_nil) (fun _ _ _ _ _ => (pe_un un_neg (pv 4)))) pa_nil)) (pa_cons (pe_un un_neg (pv 3)) pa_nil))))))),
    (fs_seq (own1 := []) (fs_asg (fe_var rfl) (fg_tup (fgs_cons (fg_name rfl) (fgs_cons (fg_name rfl) (fgs_cons (fg_name rfl) fgs_nil))) (aCons_len (aCons_len (aCons_len aNil_len aName_ex) aName_ex) aName_ex)) (aTup_ex (aCons_ex aName_ex (aCons_ex aName_ex (aCons_ex aName_ex aNil_ex)))))
      (fs_seq (own1 := []) (fs_if (own' := []) (ft_test (fe_op opf_eq (fe_var rfl) (fe_str "most"))) (fs_ret (fe_tup (fa_cons (fe_var rfl) (fa_cons (fe_var rfl) fa_nil)))) fs_next)
      (fs_ret (fe_tup (fa_cons (fe_callB cf_tup (fa_cons (fe_comp (vs := [4]) (fi_any (fe_var rfl)) (fc_name rfl rfl) aName_ex ft_yes (fe_un unf_neg (fe_var rfl))) fa_nil)) (fa_cons (fe_un unf_neg (fe_var rfl)) fa_nil))))))⟩
/-! ### only -/
abbrev st_only : Stmt := topS 16
theorem sc_only : FnScope ["unknown", "number", "unknowns", "place"] ["unknown", "number", "unknowns"] (defScope st_only) := ⟨rfl, rfl, rfl, by decide +kernel, rfl, by decide +kernel, by decide +kernel⟩
def g_only : Rho → R :=
    (gRet (gB bTup (gConsA (gComp [3] (aName 3) gYes (gIf (gBl (gEq (gVar 3) (gVar 0))) (gVar 1) (gC (.int 0))) (gRng1 (gConsA (gVar 2) gNilA))) gNilA)))
def f_only : List PyData → O PyData := fnG 4 g_only
theorem ok_only (T : Top K mg xc cls) : OkAt P w K mg base cls xc "only" ["unknown", "number", "unknowns"] 3 1 f_only :=
  okAt_of T.d_only sc_only g_only [] fun f cdv A outer s H E F0 hr => ⟨_, (pss_one (ps_ret (pe_callTy call_tuple_of (by rfl) T.n_tuple bt_tuple (pa_cons (pe_lc (own := [("place", 3)]) rfl sc_only.nd (pi_range1 (by rfl) T.n_range (pa_cons (pv 2) pa_nil)) (blkOk_by (N := ["unknown", "number", "unknowns", "place"]) (sc := defScope st_only) (own := [("place", 3)]) (by decide +kernel)) (fun _ _ _ _ _ => (pg_name (i := 3) sc_only.nd rfl (by first | exact Or.inl rfl | exact Or.inr rfl))) (fun _ _ _ _ _ => pts_nil) (fun _ _ _ _ _ => (pe_ifExp (pt_cmpR (op_eqAll hr.units) (pv 3) (pv 0) (nomark _)) (pv 1) pe_int))) pa_nil)))),
    (fs_ret (fe_callB cf_tup (fa_cons (fe_comp (vs := [3]) (fi_range1 (fa_cons (fe_var rfl) fa_nil)) (fc_name rfl rfl) aName_ex ft_yes (fe_if (ft_test (fe_op opf_eq (fe_var rfl) (fe_var rfl))) (fe_var rfl) (fe_int 0))) fa_nil)))⟩
/-! ### facts -/
abbrev st_facts : Stmt := topS 14
theorem sc_facts : FnScope ["problem", "box", "told", "row", "unknown", "least", "greatest"] ["problem", "box"] (defScope st_facts) := ⟨rfl, rfl, rfl, by decide +kernel, rfl, by decide +kernel, by decide +kernel⟩
def g_facts : Rho → R :=
    (gSeq (gDrop (gFn 2 f_check_box (gConsA (gVar 0) (gConsA (gVar 1) gNilA))))
    (gSeq (gSet 2 (gComp [3] (aName 3) gYes (gFn 1 f_row_fact (gConsA (gVar 3) gNilA)) (gItA (gFld "rows" 0 (gVar 0)))))
    (gSeq (gFor (aTup (aCons (aName 4) (aCons (aTup (aCons (aName 5) (aCons (aName 6) aNil))) aNil))) (gEnum (gConsA (gVar 1) gNilA)) (gSeq (gAppend 2 (gTup (gConsA (gFn 3 f_only (gConsA (gVar 4) (gConsA (gC (.int 1)) (gConsA (gB bLen (gConsA (gVar 1) gNilA)) gNilA)))) (gConsA (gVar 6) gNilA))))
    (gAppend 2 (gTup (gConsA (gFn 3 f_only (gConsA (gVar 4) (gConsA (gNeg (gC (.int 1))) (gConsA (gB bLen (gConsA (gVar 1) gNilA)) gNilA)))) (gConsA (gNeg (gVar 5)) gNilA))))))
    (gRet (gVar 2)))))
def f_facts : List PyData → O PyData := fnG 7 g_facts
theorem okn_facts (T : Top K mg xc cls) : OkNAt P w K mg base cls xc "facts" ["problem", "box"] 2 6 f_facts :=
  okNAt_of T.d_facts sc_facts g_facts [2] fun f cdv A outer s H E F0 hr => ⟨_, (pss_cons (ps_expr (pe_callO (ok_check_box T) hr (by decide) (by rfl) (takes_of rfl rfl rfl rfl) (pa_cons (pv 0) (pa_cons (pv 1) pa_nil))))
      (pss_cons (ps_setLc (i := 2) (own := [("row", 3)]) rfl sc_facts.nd rfl rfl (sw_true rfl rfl rfl (by decide +kernel)) (pi_any (pe_fld (pv 0) rfl)) (blkOk_by (N := ["problem", "box", "told", "row", "unknown", "least", "greatest"]) (sc := defScope st_facts) (own := [("row", 3)]) (by decide +kernel)) (fun _ _ _ _ _ => (pg_name (i := 3) sc_facts.nd rfl (by first | exact Or.inl rfl | exact Or.inr rfl))) (fun _ _ _ _ _ => pts_nil) (fun _ _ _ _ _ => (pe_callO (ok_row_fact T) hr (by decide) (by rfl) takes0 (pa_cons (pv 3) pa_nil))))
      (pss_cons (ps_for (passes_of rfl) rfl (pi_enum (by rfl) T.n_enumerate (pa_cons (pv 1) pa_nil)) (pg_tup (by rfl) (pgs_cons (pg_name (i := 4) sc_facts.nd rfl (by first | exact Or.inl rfl | exact Or.inr rfl)) (pgs_cons (pg_tup (by rfl) (pgs_cons (pg_name (i := 5) sc_facts.nd rfl (by first | exact Or.inl rfl | exact Or.inr rfl)) (pgs_cons (pg_name (i := 6) sc_facts.nd rfl (by first | exact Or.inl rfl | exact Or.inr rfl)) pgs_nil))) pgs_nil))) (pss_cons (ps_expr (pe_bm PySem.F.plainAttrs_list PySem.F.slot_list_append PySem.F.type_list_append mt_append (pv 2) (pa_cons (pe_tup (pa_cons (pe_callO (ok_only T) hr (by decide) (by rfl) (takes_of rfl rfl rfl rfl) (pa_cons (pv 4) (pa_cons pe_int (pa_cons (pe_callB call_len (by rfl) T.n_len bt_len (pa_cons (pv 1) pa_nil)) pa_nil)))) (pa_cons (pv 6) pa_nil))) pa_nil)))
      (pss_one (ps_expr (pe_bm PySem.F.plainAttrs_list PySem.F.slot_list_append PySem.F.type_list_append mt_append (pv 2) (pa_cons (pe_tup (pa_cons (pe_callO (ok_only T) hr (by decide) (by rfl) (takes_of rfl rfl rfl rfl) (pa_cons (pv 4) (pa_cons (pe_un un_neg pe_int) (pa_cons (pe_callB call_len (by rfl) T.n_len bt_len (pa_cons (pv 1) pa_nil)) pa_nil)))) (pa_cons (pe_un un_neg (pv 5)) pa_nil))) pa_nil))))))
      (pss_one (ps_ret (pv 2)))))),
    (fs_seq (own1 := []) (fs_drop (fe_call rfl (fa_cons (fe_var rfl) (fa_cons (fe_var rfl) fa_nil))))
      (fs_seq (own1 := [2]) (fs_setO (own' := [2]) (fo_comp (vs := [3]) (fi_any (fe_fld T.cl0 T.na_rows (fe_var rfl))) (fc_name rfl rfl) aName_ex ft_yes (fe_call rfl (fa_cons (fe_var rfl) fa_nil))) gComp_list rfl)
      (fs_seq (own1 := [2]) (fs_for (fi_enum (fa_cons (fe_var rfl) fa_nil)) (fg_tup (fgs_cons (fg_name rfl) (fgs_cons (fg_tup (fgs_cons (fg_name rfl) (fgs_cons (fg_name rfl) fgs_nil)) (aCons_len (aCons_len aNil_len aName_ex) aName_ex)) fgs_nil)) (aCons_len (aCons_len aNil_len (aTup_ex (aCons_ex aName_ex (aCons_ex aName_ex aNil_ex)))) aName_ex)) (aTup_ex (aCons_ex aName_ex (aCons_ex (aTup_ex (aCons_ex aName_ex (aCons_ex aName_ex aNil_ex))) aNil_ex))) (fs_seq (own1 := [2]) (fs_append (fe_tup (fa_cons (fe_call rfl (fa_cons (fe_var rfl) (fa_cons (fe_int 1) (fa_cons (fe_callB cf_len (fa_cons (fe_var rfl) fa_nil)) fa_nil)))) (fa_cons (fe_var rfl) fa_nil))) rfl)
      (fs_append (fe_tup (fa_cons (fe_call rfl (fa_cons (fe_var rfl) (fa_cons (fe_un unf_neg (fe_int 1)) (fa_cons (fe_callB cf_len (fa_cons (fe_var rfl) fa_nil)) fa_nil)))) (fa_cons (fe_un unf_neg (fe_var rfl)) fa_nil))) rfl)))
      (fs_retV rfl))))⟩
/-! ### about_row -/
abbrev st_about_row : Stmt := topS 22
theorem sc_about_row : FnScope ["line", "scale", "column", "told", "number"] ["line", "scale", "column"] (defScope st_about_row) := ⟨rfl, rfl, rfl, by decide +kernel, rfl, by decide +kernel, by decide +kernel⟩
def g_about_row : Rho → R :=
    (gSeq (gSet 3 (gComp [4] (aName 4) gYes (gMul (gVar 4) (gVar 1)) (gItA (gVar 0))))
    (gSeq (gSetIx 3 (gVar 2) (gMul (gVar 1) (gVar 1)))
    (gRet (gVar 3))))
def f_about_row : List PyData → O PyData := fnG 5 g_about_row
theorem ok_about_row (T : Top K mg xc cls) : OkAt P w K mg base cls xc "about_row" ["line", "scale", "column"] 3 1 f_about_row :=
  okAt_of T.d_about_row sc_about_row g_about_row [3] fun f cdv A outer s H E F0 hr => ⟨_, (pss_cons (ps_setLc (i := 3) (own := [("number", 4)]) rfl sc_about_row.nd rfl rfl (sw_true rfl rfl rfl (by decide +kernel)) (pi_any (pv 0)) (blkOk_by (N := ["line", "scale", "column", "told", "number"]) (sc := defScope st_about_row) (own := [("number", 4)]) (by decide +kernel)) (fun _ _ _ _ _ => (pg_name (i := 4) sc_about_row.nd rfl (by first | exact Or.inl rfl | exact Or.inr rfl))) (fun _ _ _ _ _ => pts_nil) (fun _ _ _ _ _ => (pe_op op_mulAll (pv 4) (pv 1))))
      (pss_cons (ps_asg (pe_op op_mulAll (pv 1) (pv 1)) (pg_sub (pv 3) (pv 2) set_list))
      (pss_one (ps_ret (pv 3))))),
    (fs_seq (own1 := [3]) (fs_setO (own' := [3]) (fo_comp (vs := [4]) (fi_any (fe_var rfl)) (fc_name rfl rfl) aName_ex ft_yes (fe_op opf_mul (fe_var rfl) (fe_var rfl))) gComp_list rfl)
      (fs_seq (own1 := [3]) (fs_setIx (fe_op opf_mul (fe_var rfl) (fe_var rfl)) (fe_var rfl) rfl)
      (fs_ret (fe_var rfl))))⟩
/-! ### reduced -/
abbrev st_reduced : Stmt := topS 24
theorem sc_reduced : FnScope ["table", "scale", "common", "line", "number", "divisor"] ["table", "scale"] (defScope st_reduced) := ⟨rfl, rfl, rfl, by decide +kernel, rfl, by decide +kernel, by decide +kernel⟩
def g_reduced : Rho → R :=
    (gSeq (gSet 2 (gVar 1))
    (gSeq (gFor (aName 3) (gItA (gVar 0)) (gFor (aName 4) (gItA (gVar 3)) (gSet 2 (gB bGcd (gConsA (gVar 2) (gConsA (gVar 4) gNilA))))))
    (gSeq (gSet 5 (gIf (gBl (gGt (gVar 1) (gC (.int 0)))) (gVar 2) (gNeg (gVar 2))))
    (gRet (gTup (gConsA (gComp [3] (aName 3) gYes (gComp [4] (aName 4) gYes (gFdivX (gVar 4) (gVar 5)) (gItA (gVar 3))) (gItA (gVar 0))) (gConsA (gFdivX (gVar 1) (gVar 5)) gNilA)))))))
def f_reduced : List PyData → O PyData := fnG 6 g_reduced
theorem ok_reduced (T : Top K mg xc cls) : OkAt P w K mg base cls xc "reduced" ["table", "scale"] 2 1 f_reduced :=
  okAt_of T.d_reduced sc_reduced g_reduced [] fun f cdv A outer s H E F0 hr => ⟨_, (pss_cons (ps_set (i := 2) sc_reduced.nd rfl (by first | exact Or.inl rfl | exact Or.inr rfl) (pv 1))
      (pss_cons (ps_for (passes_of rfl) rfl (pi_any (pv 0)) (pg_name (i := 3) sc_reduced.nd rfl (by first | exact Or.inl rfl | exact Or.inr rfl)) (pss_one (ps_for (passes_of rfl) rfl (pi_any (pv 3)) (pg_name (i := 4) sc_reduced.nd rfl (by first | exact Or.inl rfl | exact Or.inr rfl)) (pss_one (ps_set (i := 2) sc_reduced.nd rfl (by first | exact Or.inl rfl | exact Or.inr rfl) (pe_callBfun cr_gcd (by rfl) T.m_gcd (pa_cons (pv 2) (pa_cons (pv 4) pa_nil))))))))
      (pss_cons (ps_set (i := 5) sc_reduced.nd rfl (by first | exact Or.inl rfl | exact Or.inr rfl) (pe_ifExp (pt_cmpR op_gt (pv 1) pe_int (nomark _)) (pv 2) (pe_un un_neg (pv 2))))
      (pss_one (ps_ret (pe_tup (pa_cons (pe_lc (own := [("line", 3)]) rfl sc_reduced.nd (pi_any (pv 0)) (blkOk_by (N := ["table", "scale", "common", "line", "number", "divisor"]) (sc := defScope st_reduced) (own := [("line", 3)]) (by decide +kernel)) (fun _ _ _ _ _ => (pg_name (i := 3) sc_reduced.nd rfl (by first | exact Or.inl rfl | exact Or.inr rfl))) (fun _ _ _ _ _ => pts_nil) (fun _ _ _ _ _ => (pe_lc (own := [("number", 4)]) rfl sc_reduced.nd (pi_any (pv 3)) (blkOk_by (by kernel_rfl)) (fun _ _ _ _ _ => (pg_name (i := 4) sc_reduced.nd rfl (by first | exact Or.inl rfl | exact Or.inr rfl))) (fun _ _ _ _ _ => pts_nil) (fun _ _ _ _ _ => (pe_op op_fdivX (pv 4) (pv 5)))))) (pa_cons (pe_op op_fdivX (pv 1) (pv 5)) pa_nil)))))))),
    (fs_seq (own1 := []) (fs_set (fe_var rfl) rfl)
      (fs_seq (own1 := []) (fs_for (fi_any (fe_var rfl)) (fg_name rfl) aName_ex (fs_for (fi_any (fe_var rfl)) (fg_name rfl) aName_ex (fs_set (fe_callB cf_gcd (fa_cons (fe_var rfl) (fa_cons (fe_var rfl) fa_nil))) rfl)))
      (fs_seq (own1 := []) (fs_set (fe_if (ft_test (fe_op opf_gt (fe_var rfl) (fe_int 0))) (fe_var rfl) (fe_un unf_neg (fe_var rfl))) rfl)
      (fs_ret (fe_tup (fa_cons (fe_comp (vs := [3]) (fi_any (fe_var rfl)) (fc_name rfl rfl) aName_ex ft_yes (fe_comp (vs := [4]) (fi_any (fe_var rfl)) (fc_name rfl rfl) aName_ex ft_yes (fe_op opf_fdivX (fe_var rfl) (fe_var rfl)))) (fa_cons (fe_op opf_fdivX (fe_var rfl) (fe_var rfl)) fa_nil)))))))⟩
/-! ### other_row -/
abbrev st_other_row : Stmt := topS 23
theorem sc_other_row : FnScope ["line", "about_line", "scale", "column", "about", "part", "told", "number", "beside"] ["line", "about_line", "scale", "column"] (defScope st_other_row) := ⟨rfl, rfl, rfl, by decide +kernel, rfl, by decide +kernel, by decide +kernel⟩
def g_other_row : Rho → R :=
    (gSeq (gAsg (aTup (aCons (aName 4) (aCons (aName 5) aNil))) (gTup (gConsA (gIx (gVar 1) (gVar 3)) (gConsA (gIx (gVar 0) (gVar 3)) gNilA))))
    (gSeq (gSet 6 (gComp [7, 8] (aTup (aCons (aName 7) (aCons (aName 8) aNil))) gYes (gSub' (gMul (gVar 7) (gVar 4)) (gMul (gVar 8) (gVar 5))) (gZipM (gConsA (gVar 0) (gConsA (gVar 1) gNilA)))))
    (gSeq (gSetIx 6 (gVar 3) (gMul (gNeg (gVar 5)) (gVar 2)))
    (gRet (gVar 6)))))
def f_other_row : List PyData → O PyData := fnG 9 g_other_row
theorem ok_other_row (T : Top K mg xc cls) : OkAt P w K mg base cls xc "other_row" ["line", "about_line", "scale", "column"] 4 1 f_other_row :=
  okAt_of T.d_other_row sc_other_row g_other_row [6] fun f cdv A outer s H E F0 hr => ⟨_, (pss_cons (ps_asg (pe_tup (pa_cons (pe_ix ix_seq (pv 1) (pv 3) (fun _ _ => rfl)) (pa_cons (pe_ix ix_seq (pv 0) (pv 3) (fun _ _ => rfl)) pa_nil))) (pg_tup (by rfl) (pgs_cons (pg_name (i := 4) sc_other_row.nd rfl (by first | exact Or.inl rfl | exact Or.inr rfl)) (pgs_cons (pg_name (i := 5) sc_other_row.nd rfl (by first | exact Or.inl rfl | exact Or.inr rfl)) pgs_nil))))
      (pss_cons (ps_setLc (i := 6) (own := [("number", 7), ("beside", 8)]) rfl sc_other_row.nd rfl rfl (sw_true rfl rfl rfl (by decide +kernel)) (FnZ.pi_zipM (by rfl) T.n_zip (pa_cons (pv 0) (pa_cons (pv 1) pa_nil))) (blkOk_by (N := ["line", "about_line", "scale", "column", "about", "part", "told", "number", "beside"]) (sc := defScope st_other_row) (own := [("number", 7), ("beside", 8)]) (by decide +kernel)) (fun _ _ _ _ _ => (pg_tup (by rfl) (pgs_cons (pg_name (i := 7) sc_other_row.nd rfl (by first | exact Or.inl rfl | exact Or.inr rfl)) (pgs_cons (pg_name (i := 8) sc_other_row.nd rfl (by first | exact Or.inl rfl | exact Or.inr rfl)) pgs_nil)))) (fun _ _ _ _ _ => pts_nil) (fun _ _ _ _ _ => (pe_op op_sub (pe_op op_mulAll (pv 7) (pv 4)) (pe_op op_mulAll (pv 8) (pv 5)))))
      (pss_cons (ps_asg (pe_op op_mulAll (pe_un un_neg (pv 5)) (pv 2)) (pg_sub (pv 6) (pv 3) set_list))
      (pss_one (ps_ret (pv 6)))))),
    (fs_seq (own1 := []) (fs_asg (fe_tup (fa_cons (fe_op opf_ix (fe_var rfl) (fe_var rfl)) (fa_cons (fe_op opf_ix (fe_var rfl) (fe_var rfl)) fa_nil))) (fg_tup (fgs_cons (fg_name rfl) (fgs_cons (fg_name rfl) fgs_nil)) (aCons_len (aCons_len aNil_len aName_ex) aName_ex)) (aTup_ex (aCons_ex aName_ex (aCons_ex aName_ex aNil_ex))))
      (fs_seq (own1 := [6]) (fs_setO (own' := [6]) (fo_comp (vs := [7, 8]) (fi_zipM (fa_cons (fe_var rfl) (fa_cons (fe_var rfl) fa_nil))) (fc_tup (fcs_cons (fc_name rfl rfl) (fcs_cons (fc_name rfl rfl) fcs_nil)) (aCons_len (aCons_len aNil_len aName_ex) aName_ex)) (aTup_ex (aCons_ex aName_ex (aCons_ex aName_ex aNil_ex))) ft_yes (fe_op opf_sub (fe_op opf_mul (fe_var rfl) (fe_var rfl)) (fe_op opf_mul (fe_var rfl) (fe_var rfl)))) gComp_list rfl)
      (fs_seq (own1 := [6]) (fs_setIx (fe_op opf_mul (fe_un unf_neg (fe_var rfl)) (fe_var rfl)) (fe_var rfl) rfl)
      (fs_ret (fe_var rfl)))))⟩
/-! ### turned -/
abbrev st_turned : Stmt := topS 21
theorem sc_turned : FnScope ["table", "scale", "row", "column", "about", "told", "line"] ["table", "scale", "row", "column"] (defScope st_turned) := ⟨rfl, rfl, rfl, by decide +kernel, rfl, by decide +kernel, by decide +kernel⟩
def g_turned : Rho → R :=
    (gSeq (gSet 4 (gIx (gIx (gVar 0) (gVar 2)) (gVar 3)))
    (gSeq (gIfS (gBl (gEq (gVar 4) (gC (.int 0)))) (gRaise 4) gNext)
    (gSeq (gSet 5 (gComp [6] (aName 6) gYes (gFn 4 f_other_row (gConsA (gVar 6) (gConsA (gIx (gVar 0) (gVar 2)) (gConsA (gVar 1) (gConsA (gVar 3) gNilA))))) (gItA (gVar 0))))
    (gSeq (gSetIx 5 (gVar 2) (gFn 3 f_about_row (gConsA (gIx (gVar 0) (gVar 2)) (gConsA (gVar 1) (gConsA (gVar 3) gNilA)))))
    (gRet (gFn 2 f_reduced (gConsA (gVar 5) (gConsA (gMul (gVar 1) (gVar 4)) gNilA))))))))
def f_turned : List PyData → O PyData := fnG 7 g_turned
theorem ok_turned (T : Top K mg xc cls) : OkAt P w K mg base cls xc "turned" ["table", "scale", "row", "column"] 4 2 f_turned :=
  okAt_of T.d_turned sc_turned g_turned [5] fun f cdv A outer s H E F0 hr => ⟨_, (pss_cons (ps_set (i := 4) sc_turned.nd rfl (by first | exact Or.inl rfl | exact Or.inr rfl) (pe_ix ix_seq (pe_ix ix_seq (pv 0) (pv 2) (fun _ _ => rfl)) (pv 3) (fun _ _ => rfl)))
      (pss_cons (ps_if (pt_cmpR (op_eqAll hr.units) (pv 4) pe_int (nomark _)) (pss_one (ps_raiseO rfl (takes_of rfl rfl rfl rfl) T.e_NoTurn (by rfl))) pss_nil)
      (pss_cons (ps_setLc (i := 5) (own := [("line", 6)]) rfl sc_turned.nd rfl rfl (sw_true rfl rfl rfl (by decide +kernel)) (pi_any (pv 0)) (blkOk_by (N := ["table", "scale", "row", "column", "about", "told", "line"]) (sc := defScope st_turned) (own := [("line", 6)]) (by decide +kernel)) (fun _ _ _ _ _ => (pg_name (i := 6) sc_turned.nd rfl (by first | exact Or.inl rfl | exact Or.inr rfl))) (fun _ _ _ _ _ => pts_nil) (fun _ _ _ _ _ => (pe_callO (ok_other_row T) hr (by decide) (by rfl) takes0 (pa_cons (pv 6) (pa_cons (pe_ix ix_seq (pv 0) (pv 2) (fun _ _ => rfl)) (pa_cons (pv 1) (pa_cons (pv 3) pa_nil)))))))
      (pss_cons (ps_asg (pe_callO (ok_about_row T) hr (by decide) (by rfl) (takes_of rfl rfl rfl rfl) (pa_cons (pe_ix ix_seq (pv 0) (pv 2) (fun _ _ => rfl)) (pa_cons (pv 1) (pa_cons (pv 3) pa_nil)))) (pg_sub (pv 5) (pv 2) set_list))
      (pss_one (ps_ret (pe_callO (ok_reduced T) hr (by decide) (by rfl) (takes_of rfl rfl rfl rfl) (pa_cons (pv 5) (pa_cons (pe_op op_mulAll (pv 1) (pv 4)) pa_nil))))))))),
    (fs_seq (own1 := []) (fs_set (fe_op opf_ix (fe_op opf_ix (fe_var rfl) (fe_var rfl)) (fe_var rfl)) rfl)
      (fs_seq (own1 := []) (fs_if (own' := []) (ft_test (fe_op opf_eq (fe_var rfl) (fe_int 0))) (fs_raise (n := 4) rfl rfl) fs_next)
      (fs_seq (own1 := [5]) (fs_setO (own' := [5]) (fo_comp (vs := [6]) (fi_any (fe_var rfl)) (fc_name rfl rfl) aName_ex ft_yes (fe_call rfl (fa_cons (fe_var rfl) (fa_cons (fe_op opf_ix (fe_var rfl) (fe_var rfl)) (fa_cons (fe_var rfl) (fa_cons (fe_var rfl) fa_nil)))))) gComp_list rfl)
      (fs_seq (own1 := [5]) (fs_setIx (fe_call rfl (fa_cons (fe_op opf_ix (fe_var rfl) (fe_var rfl)) (fa_cons (fe_var rfl) (fa_cons (fe_var rfl) fa_nil)))) (fe_var rfl) rfl)
      (fs_ret (fe_call rfl (fa_cons (fe_var rfl) (fa_cons (fe_op opf_mul (fe_var rfl) (fe_var rfl)) fa_nil))))))))⟩
/-! ### Corner_weights -/
abbrev st_Corner_weights : Stmt := inClass (topS 27) 7
theorem sc_Corner_weights : FnScope ["self", "line", "told", "column", "fact"] ["self", "line"] (defScope st_Corner_weights) := ⟨rfl, rfl, rfl, by decide +kernel, rfl, by decide +kernel, by decide +kernel⟩
def g_Corner_weights : Rho → R :=
    (gSeq (gSet 2 (g2L dRep (gLst (gConsA (gC (.int 0)) gNilA)) (gAdd (gB bLen (gConsA (gFld "tight" 1 (gVar 0)) gNilA)) (gB bLen (gConsA (gFld "others" 1 (gVar 0)) gNilA)))))
    (gSeq (gFor (aTup (aCons (aName 3) (aCons (aName 4) aNil))) (gEnum (gConsA (gFld "tight" 1 (gVar 0)) gNilA)) (gSetIx 2 (gVar 4) (gIx (gVar 1) (gVar 3))))
    (gRet (gVar 2))))
def f_Corner_weights : List PyData → O PyData := fnG 5 g_Corner_weights
theorem okm_Corner_weights (T : Top K mg xc cls) : OkM P w K mg base (cls 1) "weights" ["self", "line"] 1 (spN K cls xc 2 f_Corner_weights) :=
  okMN_of T.me_Corner_weights sc_Corner_weights g_Corner_weights [2] fun f cdv A outer s H E F0 hr => ⟨_, (pss_cons (ps_set (i := 2) sc_Corner_weights.nd rfl (by first | exact Or.inl rfl | exact Or.inr rfl) (pe_op op_rep (pe_lst (pa_cons pe_int pa_nil)) (pe_op op_addAll (pe_callB call_len (by rfl) T.n_len bt_len (pa_cons (pe_fld (pv 0) rfl) pa_nil)) (pe_callB call_len (by rfl) T.n_len bt_len (pa_cons (pe_fld (pv 0) rfl) pa_nil)))))
      (pss_cons (ps_for (passes_of rfl) rfl (pi_enum (by rfl) T.n_enumerate (pa_cons (pe_fld (pv 0) rfl) pa_nil)) (pg_tup (by rfl) (pgs_cons (pg_name (i := 3) sc_Corner_weights.nd rfl (by first | exact Or.inl rfl | exact Or.inr rfl)) (pgs_cons (pg_name (i := 4) sc_Corner_weights.nd rfl (by first | exact Or.inl rfl | exact Or.inr rfl)) pgs_nil))) (pss_one (ps_asg (pe_ix ix_seq (pv 1) (pv 3) (fun _ _ => rfl)) (pg_sub (pv 2) (pv 4) set_list))))
      (pss_one (ps_ret (pv 2))))),
    (fs_seq (own1 := [2]) (fs_setO (own' := [2]) (fo_op opo_rep dRep_ex (fe_lst (fa_cons (fe_int 0) fa_nil)) (fe_op opf_add (fe_callB cf_len (fa_cons (fe_fld T.cl1 T.na_tight (fe_var rfl)) fa_nil)) (fe_callB cf_len (fa_cons (fe_fld T.cl1 T.na_others (fe_var rfl)) fa_nil)))) g2L_list rfl)
      (fs_seq (own1 := [2]) (fs_for (fi_enum (fa_cons (fe_fld T.cl1 T.na_tight (fe_var rfl)) fa_nil)) (fg_tup (fgs_cons (fg_name rfl) (fgs_cons (fg_name rfl) fgs_nil)) (aCons_len (aCons_len aNil_len aName_ex) aName_ex)) (aTup_ex (aCons_ex aName_ex (aCons_ex aName_ex aNil_ex))) (fs_setIx (fe_op opf_ix (fe_var rfl) (fe_var rfl)) (fe_var rfl) rfl))
      (fs_retV rfl)))⟩
/-! ### Corner_gain_weights -/
abbrev st_Corner_gain_weights : Stmt := inClass (topS 27) 5
theorem sc_Corner_gain_weights : FnScope ["self"] ["self"] (defScope st_Corner_gain_weights) := ⟨rfl, rfl, rfl, by decide +kernel, rfl, by decide +kernel, by decide +kernel⟩
def g_Corner_gain_weights : Rho → R :=
    (gRet (gMethL 1 "weights" 2 f_Corner_weights (gVar 0) (gConsA (gIx (gFld "table" 1 (gVar 0)) (gNeg (gC (.int 1)))) gNilA)))
def f_Corner_gain_weights : List PyData → O PyData := fnG 1 g_Corner_gain_weights
theorem okm_Corner_gain_weights (T : Top K mg xc cls) : OkM P w K mg base (cls 1) "gain_weights" ["self"] 2 (spN K cls xc 1 f_Corner_gain_weights) :=
  okMN_of T.me_Corner_gain_weights sc_Corner_gain_weights g_Corner_gain_weights [] fun f cdv A outer s H E F0 hr => ⟨_, (pss_one (ps_ret (pe_methO (okm_Corner_weights T) T.cl1 (pv 0) hr (by decide) (pa_cons (pe_ix ix_seq (pe_fld (pv 0) rfl) (pe_un un_neg pe_int) (fun _ _ => rfl)) pa_nil)))),
    (fs_retO (fo_methN (fe_var rfl) (fa_cons (fe_op opf_ix (fe_fld T.cl1 T.na_table (fe_var rfl)) (fe_un unf_neg (fe_int 1))) fa_nil)) gMethL_list)⟩
/-! ### Corner_none_weights -/
abbrev st_Corner_none_weights : Stmt := inClass (topS 27) 6
theorem sc_Corner_none_weights : FnScope ["self", "row", "told"] ["self", "row"] (defScope st_Corner_none_weights) := ⟨rfl, rfl, rfl, by decide +kernel, rfl, by decide +kernel, by decide +kernel⟩
def g_Corner_none_weights : Rho → R :=
    (gSeq (gSet 2 (gMethL 1 "weights" 2 f_Corner_weights (gVar 0) (gConsA (gIx (gFld "table" 1 (gVar 0)) (gVar 1)) gNilA)))
    (gSeq (gSetIx 2 (gIx (gFld "others" 1 (gVar 0)) (gVar 1)) (gFld "scale" 1 (gVar 0)))
    (gRet (gVar 2))))
def f_Corner_none_weights : List PyData → O PyData := fnG 3 g_Corner_none_weights
theorem okm_Corner_none_weights (T : Top K mg xc cls) : OkM P w K mg base (cls 1) "none_weights" ["self", "row"] 2 (spN K cls xc 2 f_Corner_none_weights) :=
  okMN_of T.me_Corner_none_weights sc_Corner_none_weights g_Corner_none_weights [2] fun f cdv A outer s H E F0 hr => ⟨_, (pss_cons (ps_set (i := 2) sc_Corner_none_weights.nd rfl (by first | exact Or.inl rfl | exact Or.inr rfl) (pe_methO (okm_Corner_weights T) T.cl1 (pv 0) hr (by decide) (pa_cons (pe_ix ix_seq (pe_fld (pv 0) rfl) (pv 1) (fun _ _ => rfl)) pa_nil)))
      (pss_cons (ps_asg (pe_fld (pv 0) rfl) (pg_sub (pv 2) (pe_ix ix_seq (pe_fld (pv 0) rfl) (pv 1) (fun _ _ => rfl)) set_list))
      (pss_one (ps_ret (pv 2))))),
    (fs_seq (own1 := [2]) (fs_setO (own' := [2]) (fo_methN (fe_var rfl) (fa_cons (fe_op opf_ix (fe_fld T.cl1 T.na_table (fe_var rfl)) (fe_var rfl)) fa_nil)) gMethL_list rfl)
      (fs_seq (own1 := [2]) (fs_setIx (fe_fld T.cl1 T.na_scale (fe_var rfl)) (fe_op opf_ix (fe_fld T.cl1 T.na_others (fe_var rfl)) (fe_var rfl)) rfl)
      (fs_retV rfl)))⟩
/-! ### Corner_numbers -/
abbrev st_Corner_numbers : Stmt := inClass (topS 27) 4
theorem sc_Corner_numbers : FnScope ["self", "problem", "box", "slacks", "row", "fact", "first", "unknown", "span"] ["self", "problem", "box"] (defScope st_Corner_numbers) := ⟨rfl, rfl, rfl, by decide +kernel, rfl, by decide +kernel, by decide +kernel⟩
def g_Corner_numbers : Rho → R :=
    (gSeq (gSet 3 (gDict [4, 5] (aTup (aCons (aName 4) (aCons (aName 5) aNil))) (gVar 5) (gIx (gIx (gFld "table" 1 (gVar 0)) (gVar 4)) (gNeg (gC (.int 1)))) (gEnum (gConsA (gFld "others" 1 (gVar 0)) gNilA))))
    (gSeq (gSet 6 (gAdd (gB bLen (gConsA (gFld "rows" 0 (gVar 1)) gNilA)) (gC (.int 1))))
    (gRet (gComp [7, 8] (aTup (aCons (aName 7) (aCons (aName 8) aNil))) gYes (gAdd (gMul (gIx (gVar 8) (gC (.int 0))) (gFld "scale" 1 (gVar 0))) (gGet2 (gVar 3) (gAdd (gVar 6) (gMul (gC (.int 2)) (gVar 7))) (gC (.int 0)))) (gEnum (gConsA (gVar 2) gNilA))))))
def f_Corner_numbers : List PyData → O PyData := fnG 9 g_Corner_numbers
theorem okm_Corner_numbers (T : Top K mg xc cls) : OkM P w K mg base (cls 1) "numbers" ["self", "problem", "box"] 1 (spN K cls xc 3 f_Corner_numbers) :=
  okMN_of T.me_Corner_numbers sc_Corner_numbers g_Corner_numbers [] fun f cdv A outer s H E F0 hr => ⟨_, (pss_cons (ps_set (i := 3) sc_Corner_numbers.nd rfl (by first | exact Or.inl rfl | exact Or.inr rfl) (pe_dc (own := [("row", 4), ("fact", 5)]) rfl sc_Corner_numbers.nd (pi_enum (by rfl) T.n_enumerate (pa_cons (pe_fld (pv 0) rfl) pa_nil)) (blkOk_by (N := ["self", "problem", "box", "slacks", "row", "fact", "first", "unknown", "span"]) (sc := defScope st_Corner_numbers) (own := [("row", 4), ("fact", 5)]) (by decide +kernel)) (fun _ _ _ _ _ => (pg_tup (by rfl) (pgs_cons (pg_name (i := 4) sc_Corner_numbers.nd rfl (by first | exact Or.inl rfl | exact Or.inr rfl)) (pgs_cons (pg_name (i := 5) sc_Corner_numbers.nd rfl (by first | exact Or.inl rfl | exact Or.inr rfl)) pgs_nil)))) (fun _ _ _ _ _ => pts_nil) (fun _ _ _ _ _ => (pv 5)) (fun _ _ _ _ _ => (pe_ix ix_seq (pe_ix ix_seq (pe_fld (pv 0) rfl) (pv 4) (fun _ _ => rfl)) (pe_un un_neg pe_int) (fun _ _ => rfl)))))
      (pss_cons (ps_set (i := 6) sc_Corner_numbers.nd rfl (by first | exact Or.inl rfl | exact Or.inr rfl) (pe_op op_addAll (pe_callB call_len (by rfl) T.n_len bt_len (pa_cons (pe_fld (pv 1) rfl) pa_nil)) pe_int))
      (pss_one (ps_ret (pe_lc (own := [("unknown", 7), ("span", 8)]) rfl sc_Corner_numbers.nd (pi_enum (by rfl) T.n_enumerate (pa_cons (pv 2) pa_nil)) (blkOk_by (N := ["self", "problem", "box", "slacks", "row", "fact", "first", "unknown", "span"]) (sc := defScope st_Corner_numbers) (own := [("unknown", 7), ("span", 8)]) (by decide +kernel)) (fun _ _ _ _ _ => (pg_tup (by rfl) (pgs_cons (pg_name (i := 7) sc_Corner_numbers.nd rfl (by first | exact Or.inl rfl | exact Or.inr rfl)) (pgs_cons (pg_name (i := 8) sc_Corner_numbers.nd rfl (by first | exact Or.inl rfl | exact Or.inr rfl)) pgs_nil)))) (fun _ _ _ _ _ => pts_nil) (fun _ _ _ _ _ => (pe_op op_addAll (pe_op op_mulAll (pe_ix ix_seq (pv 8) pe_int (fun _ _ => rfl)) (pe_fld (pv 0) rfl)) (pe_dget2 (hu_of hr) (pv 3) (pe_op op_addAll (pv 6) (pe_op op_mulAll pe_int (pv 7))) pe_int ⟨rfl, rfl, rfl, rfl⟩)))))))),
    (fs_seq (own1 := []) (fs_set (fe_dict (vs := [4, 5]) (fi_enum (fa_cons (fe_fld T.cl1 T.na_others (fe_var rfl)) fa_nil)) (fc_tup (fcs_cons (fc_name rfl rfl) (fcs_cons (fc_name rfl rfl) fcs_nil)) (aCons_len (aCons_len aNil_len aName_ex) aName_ex)) (aTup_ex (aCons_ex aName_ex (aCons_ex aName_ex aNil_ex))) (fe_var rfl) (fe_op opf_ix (fe_op opf_ix (fe_fld T.cl1 T.na_table (fe_var rfl)) (fe_var rfl)) (fe_un unf_neg (fe_int 1)))) rfl)
      (fs_seq (own1 := []) (fs_set (fe_op opf_add (fe_callB cf_len (fa_cons (fe_fld T.cl0 T.na_rows (fe_var rfl)) fa_nil)) (fe_int 1)) rfl)
      (fs_retO (fo_comp (vs := [7, 8]) (fi_enum (fa_cons (fe_var rfl) fa_nil)) (fc_tup (fcs_cons (fc_name rfl rfl) (fcs_cons (fc_name rfl rfl) fcs_nil)) (aCons_len (aCons_len aNil_len aName_ex) aName_ex)) (aTup_ex (aCons_ex aName_ex (aCons_ex aName_ex aNil_ex))) ft_yes (fe_op opf_add (fe_op opf_mul (fe_op opf_ix (fe_var rfl) (fe_int 0)) (fe_fld T.cl1 T.na_scale (fe_var rfl))) (fe_get2 (fe_var rfl) (fe_op opf_add (fe_var rfl) (fe_op opf_mul (fe_int 2) (fe_var rfl))) (fe_int 0)))) gComp_list)))⟩
/-! ### slack_line -/
abbrev st_slack_line : Stmt := topS 28
theorem sc_slack_line : FnScope ["fact", "signs", "ends", "numbers", "bound", "line", "number", "sign"] ["fact", "signs", "ends"] (defScope st_slack_line) := ⟨rfl, rfl, rfl, by decide +kernel, rfl, by decide +kernel, by decide +kernel⟩
def g_slack_line : Rho → R :=
    (gSeq (gAsg (aTup (aCons (aName 3) (aCons (aName 4) aNil))) (gVar 0))
    (gSeq (gSet 5 (gComp [6, 7] (aTup (aCons (aName 6) (aCons (aName 7) aNil))) gYes (gMul (gNeg (gVar 6)) (gVar 7)) (gZipM (gConsA (gVar 3) (gConsA (gVar 1) gNilA)))))
    (gRet (g2L dCat (gVar 5) (gLst (gConsA (gSub' (gVar 4) (gFn 2 f_products_sum (gConsA (gVar 3) (gConsA (gVar 2) gNilA)))) gNilA))))))
def f_slack_line : List PyData → O PyData := fnG 8 g_slack_line
theorem okn_slack_line (T : Top K mg xc cls) : OkNAt P w K mg base cls xc "slack_line" ["fact", "signs", "ends"] 3 2 f_slack_line :=
  okNAt_of T.d_slack_line sc_slack_line g_slack_line [] fun f cdv A outer s H E F0 hr => ⟨_, (pss_cons (ps_asg (pv 0) (pg_tup (by rfl) (pgs_cons (pg_name (i := 3) sc_slack_line.nd rfl (by first | exact Or.inl rfl | exact Or.inr rfl)) (pgs_cons (pg_name (i := 4) sc_slack_line.nd rfl (by first | exact Or.inl rfl | exact Or.inr rfl)) pgs_nil))))
      (pss_cons (ps_setLc (i := 5) (own := [("number", 6), ("sign", 7)]) rfl sc_slack_line.nd rfl rfl (sw_true rfl rfl rfl (by decide +kernel)) (FnZ.pi_zipM (by rfl) T.n_zip (pa_cons (pv 3) (pa_cons (pv 1) pa_nil))) (blkOk_by (N := ["fact", "signs", "ends", "numbers", "bound", "line", "number", "sign"]) (sc := defScope st_slack_line) (own := [("number", 6), ("sign", 7)]) (by decide +kernel)) (fun _ _ _ _ _ => (pg_tup (by rfl) (pgs_cons (pg_name (i := 6) sc_slack_line.nd rfl (by first | exact Or.inl rfl | exact Or.inr rfl)) (pgs_cons (pg_name (i := 7) sc_slack_line.nd rfl (by first | exact Or.inl rfl | exact Or.inr rfl)) pgs_nil)))) (fun _ _ _ _ _ => pts_nil) (fun _ _ _ _ _ => (pe_op op_mulAll (pe_un un_neg (pv 6)) (pv 7))))
      (pss_one (ps_ret (pe_op op_cat (pv 5) (pe_lst (pa_cons (pe_op op_sub (pv 4) (pe_callO (ok_products_sum T) hr (by decide) (by rfl) (takes_of rfl rfl rfl rfl) (pa_cons (pv 3) (pa_cons (pv 2) pa_nil)))) pa_nil))))))),
    (fs_seq (own1 := []) (fs_asg (fe_var rfl) (fg_tup (fgs_cons (fg_name rfl) (fgs_cons (fg_name rfl) fgs_nil)) (aCons_len (aCons_len aNil_len aName_ex) aName_ex)) (aTup_ex (aCons_ex aName_ex (aCons_ex aName_ex aNil_ex))))
      (fs_seq (own1 := []) (fs_set (fe_comp (vs := [6, 7]) (fi_zipM (fa_cons (fe_var rfl) (fa_cons (fe_var rfl) fa_nil))) (fc_tup (fcs_cons (fc_name rfl rfl) (fcs_cons (fc_name rfl rfl) fcs_nil)) (aCons_len (aCons_len aNil_len aName_ex) aName_ex)) (aTup_ex (aCons_ex aName_ex (aCons_ex aName_ex aNil_ex))) ft_yes (fe_op opf_mul (fe_un unf_neg (fe_var rfl)) (fe_var rfl))) rfl)
      (fs_retO (fo_op opo_cat dCat_ex (fe_var rfl) (fe_lst (fa_cons (fe_op opf_sub (fe_var rfl) (fe_call rfl (fa_cons (fe_var rfl) (fa_cons (fe_var rfl) fa_nil)))) fa_nil))) g2L_list)))⟩
/-! ### gain_line -/
abbrev st_gain_line : Stmt := topS 29
theorem sc_gain_line : FnScope ["gain", "signs", "ends", "line", "number", "sign"] ["gain", "signs", "ends"] (defScope st_gain_line) := ⟨rfl, rfl, rfl, by decide +kernel, rfl, by decide +kernel, by decide +kernel⟩
def g_gain_line : Rho → R :=
    (gSeq (gSet 3 (gComp [4, 5] (aTup (aCons (aName 4) (aCons (aName 5) aNil))) gYes (gMul (gVar 4) (gVar 5)) (gZipM (gConsA (gVar 0) (gConsA (gVar 1) gNilA)))))
    (gRet (g2L dCat (gVar 3) (gLst (gConsA (gFn 2 f_products_sum (gConsA (gVar 0) (gConsA (gVar 2) gNilA))) gNilA)))))
def f_gain_line : List PyData → O PyData := fnG 6 g_gain_line
theorem okn_gain_line (T : Top K mg xc cls) : OkNAt P w K mg base cls xc "gain_line" ["gain", "signs", "ends"] 3 2 f_gain_line :=
  okNAt_of T.d_gain_line sc_gain_line g_gain_line [] fun f cdv A outer s H E F0 hr => ⟨_, (pss_cons (ps_setLc (i := 3) (own := [("number", 4), ("sign", 5)]) rfl sc_gain_line.nd rfl rfl (sw_true rfl rfl rfl (by decide +kernel)) (FnZ.pi_zipM (by rfl) T.n_zip (pa_cons (pv 0) (pa_cons (pv 1) pa_nil))) (blkOk_by (N := ["gain", "signs", "ends", "line", "number", "sign"]) (sc := defScope st_gain_line) (own := [("number", 4), ("sign", 5)]) (by decide +kernel)) (fun _ _ _ _ _ => (pg_tup (by rfl) (pgs_cons (pg_name (i := 4) sc_gain_line.nd rfl (by first | exact Or.inl rfl | exact Or.inr rfl)) (pgs_cons (pg_name (i := 5) sc_gain_line.nd rfl (by first | exact Or.inl rfl | exact Or.inr rfl)) pgs_nil)))) (fun _ _ _ _ _ => pts_nil) (fun _ _ _ _ _ => (pe_op op_mulAll (pv 4) (pv 5))))
      (pss_one (ps_ret (pe_op op_cat (pv 3) (pe_lst (pa_cons (pe_callO (ok_products_sum T) hr (by decide) (by rfl) (takes_of rfl rfl rfl rfl) (pa_cons (pv 0) (pa_cons (pv 2) pa_nil))) pa_nil)))))),
    (fs_seq (own1 := []) (fs_set (fe_comp (vs := [4, 5]) (fi_zipM (fa_cons (fe_var rfl) (fa_cons (fe_var rfl) fa_nil))) (fc_tup (fcs_cons (fc_name rfl rfl) (fcs_cons (fc_name rfl rfl) fcs_nil)) (aCons_len (aCons_len aNil_len aName_ex) aName_ex)) (aTup_ex (aCons_ex aName_ex (aCons_ex aName_ex aNil_ex))) ft_yes (fe_op opf_mul (fe_var rfl) (fe_var rfl))) rfl)
      (fs_retO (fo_op opo_cat dCat_ex (fe_var rfl) (fe_lst (fa_cons (fe_call rfl (fa_cons (fe_var rfl) (fa_cons (fe_var rfl) fa_nil))) fa_nil))) g2L_list))⟩
/-! ### are_tops -/
abbrev st_are_tops : Stmt := topS 38
theorem sc_are_tops : FnScope ["tops"] ["tops"] (defScope st_are_tops) := ⟨rfl, rfl, rfl, by decide +kernel, rfl, by decide +kernel, by decide +kernel⟩
def g_are_tops : Rho → R :=
    (gSeq (gIfS (gNotT (gTru (gIsi "list" (gVar 0)))) (gRet (gC (.bool false))) gNext)
    (gRet (gAndV (gChain dLe dLe (gC (.int 1)) (gB bLen (gConsA (gVar 0) gNilA)) (gC (.int (3)))) (gFn 3 f_are_within (gConsA (gVar 0) (gConsA (gC (.int 0)) (gConsA (gC (.int (20))) gNilA)))))))
def f_are_tops : List PyData → O PyData := fnG 1 g_are_tops
theorem ok_are_tops (T : Top K mg xc cls) : OkAt P w K mg base cls xc "are_tops" ["tops"] 1 4 f_are_tops :=
  okAt_of T.d_are_tops sc_are_tops g_are_tops [] fun f cdv A outer s H E F0 hr => ⟨_, (pss_cons (ps_if (pt_not (pt_truth (pe_callB call_isi (by rfl) T.n_isinstance bt_isinstance (pa_cons (pv 0) (pa_cons (pe_bltn (v := .ty "list") (by rfl) T.n_list bt_list rfl) pa_nil))) (by intro _; rfl))) (pss_one (ps_ret pe_bl)) pss_nil)
      (pss_one (ps_ret (pe_and (pe_chain op_le op_le pe_int (pe_callB call_len (by rfl) T.n_len bt_len (pa_cons (pv 0) pa_nil)) (pe_globI (by rfl) T.i_MOST_UNKNOWNS)) (pe_one (pe_callO (ok_are_within T) hr (by decide) (by rfl) (takes_of rfl rfl rfl rfl) (pa_cons (pv 0) (pa_cons pe_int (pa_cons (pe_globI (by rfl) T.i_GREATEST_TOP) pa_nil))))))))),
    (fs_seq (own1 := []) (fs_if (own' := []) (ft_not (ft_truth (fe_isi kit_list (fe_var rfl)))) (fs_ret (fe_bool false)) fs_next)
      (fs_ret (fe_and (fe_chain opf_le opf_le (fe_int 1) (fe_callB cf_len (fa_cons (fe_var rfl) fa_nil)) (fe_int (3))) (fe_call rfl (fa_cons (fe_var rfl) (fa_cons (fe_int 0) (fa_cons (fe_int (20)) fa_nil)))))))⟩
/-! ### is_word -/
abbrev st_is_word : Stmt := topS 41
theorem sc_is_word : FnScope ["word"] ["word"] (defScope st_is_word) := ⟨rfl, rfl, rfl, by decide +kernel, rfl, by decide +kernel, by decide +kernel⟩
def g_is_word : Rho → R :=
    (gRet (gAndV (gIsi "str" (gVar 0)) (gIn (gVar 0) (gTup (gConsA (gC (.str "most")) (gConsA (gC (.str "least")) gNilA))))))
def f_is_word : List PyData → O PyData := fnG 1 g_is_word
theorem ok_is_word (T : Top K mg xc cls) : OkAt P w K mg base cls xc "is_word" ["word"] 1 1 f_is_word :=
  okAt_of T.d_is_word sc_is_word g_is_word [] fun f cdv A outer s H E F0 hr => ⟨_, (pss_one (ps_ret (pe_and (pe_callB call_isi (by rfl) T.n_isinstance bt_isinstance (pa_cons (pv 0) (pa_cons (pe_bltn (v := .ty "str") (by rfl) T.n_str bt_str rfl) pa_nil))) (pe_one (pe_cmpR op_inAll (pv 0) (pe_tup (pa_cons pe_str (pa_cons pe_str pa_nil))) (by rfl)))))),
    (fs_ret (fe_and (fe_isi kit_str (fe_var rfl)) (fe_op opf_in (fe_var rfl) (fe_tup (fa_cons (fe_str "most") (fa_cons (fe_str "least") fa_nil))))))⟩
/-! ### are_numbers -/
abbrev st_are_numbers : Stmt := topS 43
theorem sc_are_numbers : FnScope ["numbers", "unknowns"] ["numbers", "unknowns"] (defScope st_are_numbers) := ⟨rfl, rfl, rfl, by decide +kernel, rfl, by decide +kernel, by decide +kernel⟩
def g_are_numbers : Rho → R :=
    (gRet (gAndV (gEq (gB bLen (gConsA (gVar 0) gNilA)) (gVar 1)) (gFn 3 f_are_within (gConsA (gVar 0) (gConsA (gNeg (gC (.int (50)))) (gConsA (gC (.int (50))) gNilA))))))
def f_are_numbers : List PyData → O PyData := fnG 2 g_are_numbers
theorem ok_are_numbers (T : Top K mg xc cls) : OkAt P w K mg base cls xc "are_numbers" ["numbers", "unknowns"] 2 4 f_are_numbers :=
  okAt_of T.d_are_numbers sc_are_numbers g_are_numbers [] fun f cdv A outer s H E F0 hr => ⟨_, (pss_one (ps_ret (pe_and (pe_cmpR (op_eqAll hr.units) (pe_callB call_len (by rfl) T.n_len bt_len (pa_cons (pv 0) pa_nil)) (pv 1) (nomark _)) (pe_one (pe_callO (ok_are_within T) hr (by decide) (by rfl) (takes_of rfl rfl rfl rfl) (pa_cons (pv 0) (pa_cons (pe_un un_neg (pe_globI (by rfl) T.i_GREATEST_NUMBER)) (pa_cons (pe_globI (by rfl) T.i_GREATEST_NUMBER) pa_nil)))))))),
    (fs_ret (fe_and (fe_op opf_eq (fe_callB cf_len (fa_cons (fe_var rfl) fa_nil)) (fe_var rfl)) (fe_call rfl (fa_cons (fe_var rfl) (fa_cons (fe_un unf_neg (fe_int (50))) (fa_cons (fe_int (50)) fa_nil))))))⟩
/-! ### is_row -/
abbrev st_is_row : Stmt := topS 40
theorem sc_is_row : FnScope ["row", "unknowns", "numbers", "word", "bound"] ["row", "unknowns"] (defScope st_is_row) := ⟨rfl, rfl, rfl, by decide +kernel, rfl, by decide +kernel, by decide +kernel⟩
def g_is_row : Rho → R :=
    (gSeq (gIfS (gOrT (gNotT (gTru (gIsi "tuple" (gVar 0)))) (gBl (gNe (gB bLen (gConsA (gVar 0) gNilA)) (gC (.int 3))))) (gRet (gC (.bool false))) gNext)
    (gSeq (gAsg (aTup (aCons (aName 2) (aCons (aName 3) (aCons (aName 4) aNil)))) (gVar 0))
    (gSeq (gIfS (gOrT (gNotT (gTru (gIsi "tuple" (gVar 2)))) (gNotT (gTru (gFn 2 f_are_numbers (gConsA (gVar 2) (gConsA (gVar 1) gNilA)))))) (gRet (gC (.bool false))) gNext)
    (gRet (gAndV (gFn 1 f_is_word (gConsA (gVar 3) gNilA)) (gFn 3 f_is_within (gConsA (gVar 4) (gConsA (gNeg (gC (.int (2000)))) (gConsA (gC (.int (2000))) gNilA)))))))))
def f_is_row : List PyData → O PyData := fnG 5 g_is_row
theorem ok_is_row (T : Top K mg xc cls) : OkAt P w K mg base cls xc "is_row" ["row", "unknowns"] 2 5 f_is_row :=
  okAt_of T.d_is_row sc_is_row g_is_row [] fun f cdv A outer s H E F0 hr => ⟨_, (pss_cons (ps_if (PW.pt (pw_or (pt_not (pt_truth (pe_callB call_isi (by rfl) T.n_isinstance bt_isinstance (pa_cons (pv 0) (pa_cons (pe_bltn (v := .ty "tuple") (by rfl) T.n_tuple bt_tuple rfl) pa_nil))) (by intro _; rfl))) (pw_or1 (pt_cmpR (op_neAll hr.units) (pe_callB call_len (by rfl) T.n_len bt_len (pa_cons (pv 0) pa_nil)) pe_int (nomark _))))) (pss_one (ps_ret pe_bl)) pss_nil)
      (pss_cons (ps_asg (pv 0) (pg_tup (by rfl) (pgs_cons (pg_name (i := 2) sc_is_row.nd rfl (by first | exact Or.inl rfl | exact Or.inr rfl)) (pgs_cons (pg_name (i := 3) sc_is_row.nd rfl (by first | exact Or.inl rfl | exact Or.inr rfl)) (pgs_cons (pg_name (i := 4) sc_is_row.nd rfl (by first | exact Or.inl rfl | exact Or.inr rfl)) pgs_nil)))))
      (pss_cons (ps_if (PW.pt (pw_or (pt_not (pt_truth (pe_callB call_isi (by rfl) T.n_isinstance bt_isinstance (pa_cons (pv 2) (pa_cons (pe_bltn (v := .ty "tuple") (by rfl) T.n_tuple bt_tuple rfl) pa_nil))) (by intro _; rfl))) (pw_or1 (pt_not (pt_truth (pe_callO (ok_are_numbers T) hr (by decide) (by rfl) (takes_of rfl rfl rfl rfl) (pa_cons (pv 2) (pa_cons (pv 1) pa_nil))) (by intro _; rfl)))))) (pss_one (ps_ret pe_bl)) pss_nil)
      (pss_one (ps_ret (pe_and (pe_callO (ok_is_word T) hr (by decide) (by rfl) (takes_of rfl rfl rfl rfl) (pa_cons (pv 3) pa_nil)) (pe_one (pe_callO (ok_is_within T) hr (by decide) (by rfl) (takes_of rfl rfl rfl rfl) (pa_cons (pv 4) (pa_cons (pe_un un_neg (pe_globI (by rfl) T.i_GREATEST_BOUND)) (pa_cons (pe_globI (by rfl) T.i_GREATEST_BOUND) pa_nil))))))))))),
    (fs_seq (own1 := []) (fs_if (own' := []) (ft_or (ft_not (ft_truth (fe_isi kit_tuple (fe_var rfl)))) (ft_test (fe_op opf_ne (fe_callB cf_len (fa_cons (fe_var rfl) fa_nil)) (fe_int 3)))) (fs_ret (fe_bool false)) fs_next)
      (fs_seq (own1 := []) (fs_asg (fe_var rfl) (fg_tup (fgs_cons (fg_name rfl) (fgs_cons (fg_name rfl) (fgs_cons (fg_name rfl) fgs_nil))) (aCons_len (aCons_len (aCons_len aNil_len aName_ex) aName_ex) aName_ex)) (aTup_ex (aCons_ex aName_ex (aCons_ex aName_ex (aCons_ex aName_ex aNil_ex)))))
      (fs_seq (own1 := []) (fs_if (own' := []) (ft_or (ft_not (ft_truth (fe_isi kit_tuple (fe_var rfl)))) (ft_not (ft_truth (fe_call rfl (fa_cons (fe_var rfl) (fa_cons (fe_var rfl) fa_nil)))))) (fs_ret (fe_bool false)) fs_next)
      (fs_ret (fe_and (fe_call rfl (fa_cons (fe_var rfl) fa_nil)) (fe_call rfl (fa_cons (fe_var rfl) (fa_cons (fe_un unf_neg (fe_int (2000))) (fa_cons (fe_int (2000)) fa_nil)))))))))⟩
/-! ### are_rows -/
abbrev st_are_rows : Stmt := topS 39
theorem sc_are_rows : FnScope ["rows", "unknowns", "row"] ["rows", "unknowns"] (defScope st_are_rows) := ⟨rfl, rfl, rfl, by decide +kernel, rfl, by decide +kernel, by decide +kernel⟩
def g_are_rows : Rho → R :=
    (gSeq (gIfS (gOrT (gNotT (gTru (gIsi "list" (gVar 0)))) (gBl (gGt (gB bLen (gConsA (gVar 0) gNilA)) (gC (.int (6)))))) (gRet (gC (.bool false))) gNext)
    (gRet (gB bAll (gConsA (gComp [2] (aName 2) gYes (gFn 2 f_is_row (gConsA (gVar 2) (gConsA (gVar 1) gNilA))) (gItA (gVar 0))) gNilA))))
def f_are_rows : List PyData → O PyData := fnG 3 g_are_rows
theorem ok_are_rows (T : Top K mg xc cls) : OkAt P w K mg base cls xc "are_rows" ["rows", "unknowns"] 2 6 f_are_rows :=
  okAt_of T.d_are_rows sc_are_rows g_are_rows [] fun f cdv A outer s H E F0 hr => ⟨_, (pss_cons (ps_if (PW.pt (pw_or (pt_not (pt_truth (pe_callB call_isi (by rfl) T.n_isinstance bt_isinstance (pa_cons (pv 0) (pa_cons (pe_bltn (v := .ty "list") (by rfl) T.n_list bt_list rfl) pa_nil))) (by intro _; rfl))) (pw_or1 (pt_cmpR op_gt (pe_callB call_len (by rfl) T.n_len bt_len (pa_cons (pv 0) pa_nil)) (pe_globI (by rfl) T.i_MOST_ROWS) (nomark _))))) (pss_one (ps_ret pe_bl)) pss_nil)
      (pss_one (ps_ret (pe_callB (cr_all rfl) (by rfl) T.n_all bt_all (pa_cons (pe_lc (own := [("row", 2)]) rfl sc_are_rows.nd (pi_any (pv 0)) (blkOk_by (N := ["rows", "unknowns", "row"]) (sc := defScope st_are_rows) (own := [("row", 2)]) (by decide +kernel)) (fun _ _ _ _ _ => (pg_name (i := 2) sc_are_rows.nd rfl (by first | exact Or.inl rfl | exact Or.inr rfl))) (fun _ _ _ _ _ => pts_nil) (fun _ _ _ _ _ => (pe_callO (ok_is_row T) hr (by decide) (by rfl) takes0 (pa_cons (pv 2) (pa_cons (pv 1) pa_nil))))) pa_nil))))),
    (fs_seq (own1 := []) (fs_if (own' := []) (ft_or (ft_not (ft_truth (fe_isi kit_list (fe_var rfl)))) (ft_test (fe_op opf_gt (fe_callB cf_len (fa_cons (fe_var rfl) fa_nil)) (fe_int (6))))) (fs_ret (fe_bool false)) fs_next)
      (fs_ret (fe_callB cf_all (fa_cons (fe_comp (vs := [2]) (fi_any (fe_var rfl)) (fc_name rfl rfl) aName_ex ft_yes (fe_call rfl (fa_cons (fe_var rfl) (fa_cons (fe_var rfl) fa_nil)))) fa_nil))))⟩
/-! ### is_gain -/
abbrev st_is_gain : Stmt := topS 42
theorem sc_is_gain : FnScope ["gain", "unknowns"] ["gain", "unknowns"] (defScope st_is_gain) := ⟨rfl, rfl, rfl, by decide +kernel, rfl, by decide +kernel, by decide +kernel⟩
def g_is_gain : Rho → R :=
    (gRet (gAndV (gIsi "list" (gVar 0)) (gFn 2 f_are_numbers (gConsA (gVar 0) (gConsA (gVar 1) gNilA)))))
def f_is_gain : List PyData → O PyData := fnG 2 g_is_gain
theorem ok_is_gain (T : Top K mg xc cls) : OkAt P w K mg base cls xc "is_gain" ["gain", "unknowns"] 2 5 f_is_gain :=
  okAt_of T.d_is_gain sc_is_gain g_is_gain [] fun f cdv A outer s H E F0 hr => ⟨_, (pss_one (ps_ret (pe_and (pe_callB call_isi (by rfl) T.n_isinstance bt_isinstance (pa_cons (pv 0) (pa_cons (pe_bltn (v := .ty "list") (by rfl) T.n_list bt_list rfl) pa_nil))) (pe_one (pe_callO (ok_are_numbers T) hr (by decide) (by rfl) (takes_of rfl rfl rfl rfl) (pa_cons (pv 0) (pa_cons (pv 1) pa_nil))))))),
    (fs_ret (fe_and (fe_isi kit_list (fe_var rfl)) (fe_call rfl (fa_cons (fe_var rfl) (fa_cons (fe_var rfl) fa_nil)))))⟩
/-! ### is_problem -/
abbrev st_is_problem : Stmt := topS 37
theorem sc_is_problem : FnScope ["tops", "rows", "gain"] ["tops", "rows", "gain"] (defScope st_is_problem) := ⟨rfl, rfl, rfl, by decide +kernel, rfl, by decide +kernel, by decide +kernel⟩
def g_is_problem : Rho → R :=
    (gRet (gAndV (gFn 1 f_are_tops (gConsA (gVar 0) gNilA)) (gAndV (gFn 2 f_are_rows (gConsA (gVar 1) (gConsA (gB bLen (gConsA (gVar 0) gNilA)) gNilA))) (gFn 2 f_is_gain (gConsA (gVar 2) (gConsA (gB bLen (gConsA (gVar 0) gNilA)) gNilA))))))
def f_is_problem : List PyData → O PyData := fnG 3 g_is_problem
theorem ok_is_problem (T : Top K mg xc cls) : OkAt P w K mg base cls xc "is_problem" ["tops", "rows", "gain"] 3 7 f_is_problem :=
  okAt_of T.d_is_problem sc_is_problem g_is_problem [] fun f cdv A outer s H E F0 hr => ⟨_, (pss_one (ps_ret (pe_and (pe_callO (ok_are_tops T) hr (by decide) (by rfl) (takes_of rfl rfl rfl rfl) (pa_cons (pv 0) pa_nil)) (pe_and (pe_callO (ok_are_rows T) hr (by decide) (by rfl) (takes_of rfl rfl rfl rfl) (pa_cons (pv 1) (pa_cons (pe_callB call_len (by rfl) T.n_len bt_len (pa_cons (pv 0) pa_nil)) pa_nil))) (pe_one (pe_callO (ok_is_gain T) hr (by decide) (by rfl) (takes_of rfl rfl rfl rfl) (pa_cons (pv 2) (pa_cons (pe_callB call_len (by rfl) T.n_len bt_len (pa_cons (pv 0) pa_nil)) pa_nil)))))))),
    (fs_ret (fe_and (fe_call rfl (fa_cons (fe_var rfl) fa_nil)) (fe_and (fe_call rfl (fa_cons (fe_var rfl) (fa_cons (fe_callB cf_len (fa_cons (fe_var rfl) fa_nil)) fa_nil))) (fe_call rfl (fa_cons (fe_var rfl) (fa_cons (fe_callB cf_len (fa_cons (fe_var rfl) fa_nil)) fa_nil))))))⟩
/-! ### is_point -/
abbrev st_is_point : Stmt := topS 44
theorem sc_is_point : FnScope ["problem", "point", "number"] ["problem", "point"] (defScope st_is_point) := ⟨rfl, rfl, rfl, by decide +kernel, rfl, by decide +kernel, by decide +kernel⟩
def g_is_point : Rho → R :=
    (gSeq (gIfS (gOrT (gNotT (gTru (gIsi "list" (gVar 1)))) (gBl (gNe (gB bLen (gConsA (gVar 1) gNilA)) (gB bLen (gConsA (gFld "tops" 0 (gVar 0)) gNilA))))) (gRet (gC (.bool false))) gNext)
    (gRet (gB bAll (gConsA (gComp [2] (aName 2) gYes (gFn 1 f_is_whole (gConsA (gVar 2) gNilA)) (gItA (gVar 1))) gNilA))))
def f_is_point : List PyData → O PyData := fnG 3 g_is_point
theorem ok_is_point (T : Top K mg xc cls) : OkAt P w K mg base cls xc "is_point" ["problem", "point"] 2 2 f_is_point :=
  okAt_of T.d_is_point sc_is_point g_is_point [] fun f cdv A outer s H E F0 hr => ⟨_, (pss_cons (ps_if (PW.pt (pw_or (pt_not (pt_truth (pe_callB call_isi (by rfl) T.n_isinstance bt_isinstance (pa_cons (pv 1) (pa_cons (pe_bltn (v := .ty "list") (by rfl) T.n_list bt_list rfl) pa_nil))) (by intro _; rfl))) (pw_or1 (pt_cmpR (op_neAll hr.units) (pe_callB call_len (by rfl) T.n_len bt_len (pa_cons (pv 1) pa_nil)) (pe_callB call_len (by rfl) T.n_len bt_len (pa_cons (pe_fld (pv 0) rfl) pa_nil)) (nomark _))))) (pss_one (ps_ret pe_bl)) pss_nil)
      (pss_one (ps_ret (pe_callB (cr_all rfl) (by rfl) T.n_all bt_all (pa_cons (pe_lc (own := [("number", 2)]) rfl sc_is_point.nd (pi_any (pv 1)) (blkOk_by (N := ["problem", "point", "number"]) (sc := defScope st_is_point) (own := [("number", 2)]) (by decide +kernel)) (fun _ _ _ _ _ => (pg_name (i := 2) sc_is_point.nd rfl (by first | exact Or.inl rfl | exact Or.inr rfl))) (fun _ _ _ _ _ => pts_nil) (fun _ _ _ _ _ => (pe_callO (ok_is_whole T) hr (by decide) (by rfl) takes0 (pa_cons (pv 2) pa_nil)))) pa_nil))))),
    (fs_seq (own1 := []) (fs_if (own' := []) (ft_or (ft_not (ft_truth (fe_isi kit_list (fe_var rfl)))) (ft_test (fe_op opf_ne (fe_callB cf_len (fa_cons (fe_var rfl) fa_nil)) (fe_callB cf_len (fa_cons (fe_fld T.cl0 T.na_tops (fe_var rfl)) fa_nil))))) (fs_ret (fe_bool false)) fs_next)
      (fs_ret (fe_callB cf_all (fa_cons (fe_comp (vs := [2]) (fi_any (fe_var rfl)) (fc_name rfl rfl) aName_ex ft_yes (fe_call rfl (fa_cons (fe_var rfl) fa_nil))) fa_nil))))⟩
/-! ### check_point -/
abbrev st_check_point : Stmt := topS 45
theorem sc_check_point : FnScope ["problem", "point"] ["problem", "point"] (defScope st_check_point) := ⟨rfl, rfl, rfl, by decide +kernel, rfl, by decide +kernel, by decide +kernel⟩
def g_check_point : Rho → R :=
    (gIfS (gNotT (gTru (gFn 2 f_is_point (gConsA (gVar 0) (gConsA (gVar 1) gNilA))))) (gRaise 2) gNext)
def f_check_point : List PyData → O PyData := fnG 2 g_check_point
theorem ok_check_point (T : Top K mg xc cls) : OkAt P w K mg base cls xc "check_point" ["problem", "point"] 2 3 f_check_point :=
  okAt_of T.d_check_point sc_check_point g_check_point [] fun f cdv A outer s H E F0 hr => ⟨_, (pss_one (ps_if (pt_not (pt_truth (pe_callO (ok_is_point T) hr (by decide) (by rfl) (takes_of rfl rfl rfl rfl) (pa_cons (pv 0) (pa_cons (pv 1) pa_nil))) (by intro _; rfl))) (pss_one (ps_raiseO rfl (takes_of rfl rfl rfl rfl) T.e_BadPoint (by rfl))) pss_nil)),
    (fs_if (own' := []) (ft_not (ft_truth (fe_call rfl (fa_cons (fe_var rfl) (fa_cons (fe_var rfl) fa_nil))))) (fs_raise (n := 2) rfl rfl) fs_next)⟩
/-! ### gained -/
abbrev st_gained : Stmt := topS 46
theorem sc_gained : FnScope ["problem", "point"] ["problem", "point"] (defScope st_gained) := ⟨rfl, rfl, rfl, by decide +kernel, rfl, by decide +kernel, by decide +kernel⟩
def g_gained : Rho → R :=
    (gSeq (gDrop (gFn 2 f_check_point (gConsA (gVar 0) (gConsA (gVar 1) gNilA))))
    (gRet (gFn 2 f_products_sum (gConsA (gFld "gain" 0 (gVar 0)) (gConsA (gVar 1) gNilA)))))
def f_gained : List PyData → O PyData := fnG 2 g_gained
theorem ok_gained (T : Top K mg xc cls) : OkAt P w K mg base cls xc "gained" ["problem", "point"] 2 4 f_gained :=
  okAt_of T.d_gained sc_gained g_gained [] fun f cdv A outer s H E F0 hr => ⟨_, (pss_cons (ps_expr (pe_callO (ok_check_point T) hr (by decide) (by rfl) (takes_of rfl rfl rfl rfl) (pa_cons (pv 0) (pa_cons (pv 1) pa_nil))))
      (pss_one (ps_ret (pe_callO (ok_products_sum T) hr (by decide) (by rfl) (takes_of rfl rfl rfl rfl) (pa_cons (pe_fld (pv 0) rfl) (pa_cons (pv 1) pa_nil)))))),
    (fs_seq (own1 := []) (fs_drop (fe_call rfl (fa_cons (fe_var rfl) (fa_cons (fe_var rfl) fa_nil))))
      (fs_ret (fe_call rfl (fa_cons (fe_fld T.cl0 T.na_gain (fe_var rfl)) (fa_cons (fe_var rfl) fa_nil)))))⟩
/-! ### broken_unknown -/
abbrev st_broken_unknown : Stmt := topS 50
theorem sc_broken_unknown : FnScope ["numbers", "divisor", "unknown", "number"] ["numbers", "divisor"] (defScope st_broken_unknown) := ⟨rfl, rfl, rfl, by decide +kernel, rfl, by decide +kernel, by decide +kernel⟩
def g_broken_unknown : Rho → R :=
    (gSeq (gFor (aTup (aCons (aName 2) (aCons (aName 3) aNil))) (gEnum (gConsA (gVar 0) gNilA)) (gIfS (gBl (gNe (gMul (gFdiv (gVar 3) (gVar 1)) (gVar 1)) (gVar 3))) (gRet (gVar 2)) gNext))
    (gRet (gC .none)))
def f_broken_unknown : List PyData → O PyData := fnG 4 g_broken_unknown
theorem ok_broken_unknown (T : Top K mg xc cls) : OkAt P w K mg base cls xc "broken_unknown" ["numbers", "divisor"] 2 1 f_broken_unknown :=
  okAt_of T.d_broken_unknown sc_broken_unknown g_broken_unknown [] fun f cdv A outer s H E F0 hr => ⟨_, (pss_cons (ps_for (passes_of rfl) rfl (pi_enum (by rfl) T.n_enumerate (pa_cons (pv 0) pa_nil)) (pg_tup (by rfl) (pgs_cons (pg_name (i := 2) sc_broken_unknown.nd rfl (by first | exact Or.inl rfl | exact Or.inr rfl)) (pgs_cons (pg_name (i := 3) sc_broken_unknown.nd rfl (by first | exact Or.inl rfl | exact Or.inr rfl)) pgs_nil))) (pss_one (ps_if (pt_cmpR (op_neAll hr.units) (pe_op op_mulAll (pe_op op_fdivW (pv 3) (pv 1)) (pv 1)) (pv 3) (nomark _)) (pss_one (ps_ret (pv 2))) pss_nil)))
      (pss_one (ps_ret pe_non))),
    (fs_seq (own1 := []) (fs_for (fi_enum (fa_cons (fe_var rfl) fa_nil)) (fg_tup (fgs_cons (fg_name rfl) (fgs_cons (fg_name rfl) fgs_nil)) (aCons_len (aCons_len aNil_len aName_ex) aName_ex)) (aTup_ex (aCons_ex aName_ex (aCons_ex aName_ex aNil_ex))) (fs_if (own' := []) (ft_test (fe_op opf_ne (fe_op opf_mul (fe_op opf_fdiv (fe_var rfl) (fe_var rfl)) (fe_var rfl)) (fe_var rfl))) (fs_ret (fe_var rfl)) fs_next))
      (fs_ret fe_none))⟩
/-! ### with_span -/
abbrev st_with_span : Stmt := topS 53
theorem sc_with_span : FnScope ["box", "unknown", "span", "place", "old"] ["box", "unknown", "span"] (defScope st_with_span) := ⟨rfl, rfl, rfl, by decide +kernel, rfl, by decide +kernel, by decide +kernel⟩
def g_with_span : Rho → R :=
    (gRet (gComp [3, 4] (aTup (aCons (aName 3) (aCons (aName 4) aNil))) gYes (gIf (gBl (gEq (gVar 3) (gVar 1))) (gVar 2) (gVar 4)) (gEnum (gConsA (gVar 0) gNilA))))
def f_with_span : List PyData → O PyData := fnG 5 g_with_span
theorem ok_with_span (T : Top K mg xc cls) : OkAt P w K mg base cls xc "with_span" ["box", "unknown", "span"] 3 1 f_with_span :=
  okAt_of T.d_with_span sc_with_span g_with_span [] fun f cdv A outer s H E F0 hr => ⟨_, (pss_one (ps_ret (pe_lc (own := [("place", 3), ("old", 4)]) rfl sc_with_span.nd (pi_enum (by rfl) T.n_enumerate (pa_cons (pv 0) pa_nil)) (blkOk_by (N := ["box", "unknown", "span", "place", "old"]) (sc := defScope st_with_span) (own := [("place", 3), ("old", 4)]) (by decide +kernel)) (fun _ _ _ _ _ => (pg_tup (by rfl) (pgs_cons (pg_name (i := 3) sc_with_span.nd rfl (by first | exact Or.inl rfl | exact Or.inr rfl)) (pgs_cons (pg_name (i := 4) sc_with_span.nd rfl (by first | exact Or.inl rfl | exact Or.inr rfl)) pgs_nil)))) (fun _ _ _ _ _ => pts_nil) (fun _ _ _ _ _ => (pe_ifExp (pt_cmpR (op_eqAll hr.units) (pv 3) (pv 1) (nomark _)) (pv 2) (pv 4)))))),
    (fs_ret (fe_comp (vs := [3, 4]) (fi_enum (fa_cons (fe_var rfl) fa_nil)) (fc_tup (fcs_cons (fc_name rfl rfl) (fcs_cons (fc_name rfl rfl) fcs_nil)) (aCons_len (aCons_len aNil_len aName_ex) aName_ex)) (aTup_ex (aCons_ex aName_ex (aCons_ex aName_ex aNil_ex))) ft_yes (fe_if (ft_test (fe_op opf_eq (fe_var rfl) (fe_var rfl))) (fe_var rfl) (fe_var rfl))))⟩
/-! ### box_below -/
abbrev st_box_below : Stmt := topS 51
theorem sc_box_below : FnScope ["box", "unknown", "at"] ["box", "unknown", "at"] (defScope st_box_below) := ⟨rfl, rfl, rfl, by decide +kernel, rfl, by decide +kernel, by decide +kernel⟩
def g_box_below : Rho → R :=
    (gRet (gFn 3 f_with_span (gConsA (gVar 0) (gConsA (gVar 1) (gConsA (gTup (gConsA (gIx (gIx (gVar 0) (gVar 1)) (gC (.int 0))) (gConsA (gVar 2) gNilA))) gNilA)))))
def f_box_below : List PyData → O PyData := fnG 3 g_box_below
theorem ok_box_below (T : Top K mg xc cls) : OkAt P w K mg base cls xc "box_below" ["box", "unknown", "at"] 3 2 f_box_below :=
  okAt_of T.d_box_below sc_box_below g_box_below [] fun f cdv A outer s H E F0 hr => ⟨_, (pss_one (ps_ret (pe_callO (ok_with_span T) hr (by decide) (by rfl) (takes_of rfl rfl rfl rfl) (pa_cons (pv 0) (pa_cons (pv 1) (pa_cons (pe_tup (pa_cons (pe_ix ix_seq (pe_ix ix_seq (pv 0) (pv 1) (fun _ _ => rfl)) pe_int (fun _ _ => rfl)) (pa_cons (pv 2) pa_nil))) pa_nil)))))),
    (fs_ret (fe_call rfl (fa_cons (fe_var rfl) (fa_cons (fe_var rfl) (fa_cons (fe_tup (fa_cons (fe_op opf_ix (fe_op opf_ix (fe_var rfl) (fe_var rfl)) (fe_int 0)) (fa_cons (fe_var rfl) fa_nil))) fa_nil)))))⟩
/-! ### box_above -/
abbrev st_box_above : Stmt := topS 52
theorem sc_box_above : FnScope ["box", "unknown", "at"] ["box", "unknown", "at"] (defScope st_box_above) := ⟨rfl, rfl, rfl, by decide +kernel, rfl, by decide +kernel, by decide +kernel⟩
def g_box_above : Rho → R :=
    (gRet (gFn 3 f_with_span (gConsA (gVar 0) (gConsA (gVar 1) (gConsA (gTup (gConsA (gAdd (gVar 2) (gC (.int 1))) (gConsA (gIx (gIx (gVar 0) (gVar 1)) (gC (.int 1))) gNilA))) gNilA)))))
def f_box_above : List PyData → O PyData := fnG 3 g_box_above
theorem ok_box_above (T : Top K mg xc cls) : OkAt P w K mg base cls xc "box_above" ["box", "unknown", "at"] 3 2 f_box_above :=
  okAt_of T.d_box_above sc_box_above g_box_above [] fun f cdv A outer s H E F0 hr => ⟨_, (pss_one (ps_ret (pe_callO (ok_with_span T) hr (by decide) (by rfl) (takes_of rfl rfl rfl rfl) (pa_cons (pv 0) (pa_cons (pv 1) (pa_cons (pe_tup (pa_cons (pe_op op_addAll (pv 2) pe_int) (pa_cons (pe_ix ix_seq (pe_ix ix_seq (pv 0) (pv 1) (fun _ _ => rfl)) pe_int (fun _ _ => rfl)) pa_nil))) pa_nil)))))),
    (fs_ret (fe_call rfl (fa_cons (fe_var rfl) (fa_cons (fe_var rfl) (fa_cons (fe_tup (fa_cons (fe_op opf_add (fe_var rfl) (fe_int 1)) (fa_cons (fe_op opf_ix (fe_op opf_ix (fe_var rfl) (fe_var rfl)) (fe_int 1)) fa_nil))) fa_nil)))))⟩
/-! ### _law_cell_at -/
abbrev st__law_cell_at : Stmt := topS 55
theorem sc__law_cell_at : FnScope ["_law_script", "_law_k", "_law_cell"] ["_law_script", "_law_k"] (defScope st__law_cell_at) := ⟨rfl, rfl, rfl, by decide +kernel, rfl, by decide +kernel, by decide +kernel⟩
def g__law_cell_at : Rho → R :=
    (gSeq (gSet 2 (gC (.int 0)))
    (gSeq (gIfS (gBl (gGt (gB bLen (gConsA (gVar 0) gNilA)) (gC (.int 0)))) (gSet 2 (gIx (gVar 0) (gMod (gVar 1) (gB bLen (gConsA (gVar 0) gNilA))))) gNext)
    (gRet (gMod (gMul (gAdd (gVar 2) (gMul (gC (.int 17)) (gVar 1))) (gC (.int 48271))) (gC (.int 1000003))))))
def f__law_cell_at : List PyData → O PyData := fnG 3 g__law_cell_at
theorem ok__law_cell_at (T : Top K mg xc cls) : OkAt P w K mg base cls xc "_law_cell_at" ["_law_script", "_law_k"] 2 1 f__law_cell_at :=
  okAt_of T.d__law_cell_at sc__law_cell_at g__law_cell_at [] fun f cdv A outer s H E F0 hr => ⟨_, (pss_cons (ps_set (i := 2) sc__law_cell_at.nd rfl (by first | exact Or.inl rfl | exact Or.inr rfl) pe_int)
      (pss_cons (ps_if (pt_cmpR op_gt (pe_callB call_len (by rfl) T.n_len bt_len (pa_cons (pv 0) pa_nil)) pe_int (nomark _)) (pss_one (ps_set (i := 2) sc__law_cell_at.nd rfl (by first | exact Or.inl rfl | exact Or.inr rfl) (pe_ix ix_seq (pv 0) (pe_op op_mod (pv 1) (pe_callB call_len (by rfl) T.n_len bt_len (pa_cons (pv 0) pa_nil))) (fun _ _ => rfl)))) pss_nil)
      (pss_one (ps_ret (pe_op op_mod (pe_op op_mulAll (pe_op op_addAll (pv 2) (pe_op op_mulAll pe_int (pv 1))) pe_int) pe_int))))),
    (fs_seq (own1 := []) (fs_set (fe_int 0) rfl)
      (fs_seq (own1 := []) (fs_if (own' := []) (ft_test (fe_op opf_gt (fe_callB cf_len (fa_cons (fe_var rfl) fa_nil)) (fe_int 0))) (fs_set (fe_op opf_ix (fe_var rfl) (fe_op opf_mod (fe_var rfl) (fe_callB cf_len (fa_cons (fe_var rfl) fa_nil)))) rfl) fs_next)
      (fs_ret (fe_op opf_mod (fe_op opf_mul (fe_op opf_add (fe_var rfl) (fe_op opf_mul (fe_int 17) (fe_var rfl))) (fe_int 48271)) (fe_int 1000003)))))⟩
/-! ### _law_whole -/
abbrev st__law_whole : Stmt := topS 56
theorem sc__law_whole : FnScope ["_law_found"] ["_law_found"] (defScope st__law_whole) := ⟨rfl, rfl, rfl, by decide +kernel, rfl, by decide +kernel, by decide +kernel⟩
def g__law_whole : Rho → R :=
    (gRet (gAndV (gIsi "int" (gVar 0)) (gNotV (gIsi "bool" (gVar 0)))))
def f__law_whole : List PyData → O PyData := fnG 1 g__law_whole
theorem ok__law_whole (T : Top K mg xc cls) : OkAt P w K mg base cls xc "_law_whole" ["_law_found"] 1 1 f__law_whole :=
  okAt_of T.d__law_whole sc__law_whole g__law_whole [] fun f cdv A outer s H E F0 hr => ⟨_, (pss_one (ps_ret (pe_and (pe_callB call_isi (by rfl) T.n_isinstance bt_isinstance (pa_cons (pv 0) (pa_cons (pe_bltn (v := .ty "int") (by rfl) T.n_int bt_int rfl) pa_nil))) (pe_one (pe_not (pe_callB call_isi (by rfl) T.n_isinstance bt_isinstance (pa_cons (pv 0) (pa_cons (pe_bltn (v := .ty "bool") (by rfl) T.n_bool bt_bool rfl) pa_nil)))))))),
    (fs_ret (fe_and (fe_isi kit_int (fe_var rfl)) (fe_not (fe_isi kit_bool (fe_var rfl)))))⟩
/-! ### _law_number -/
abbrev st__law_number : Stmt := topS 57
theorem sc__law_number : FnScope ["_law_cell", "_law_kind_here"] ["_law_cell", "_law_kind_here"] (defScope st__law_number) := ⟨rfl, rfl, rfl, by decide +kernel, rfl, by decide +kernel, by decide +kernel⟩
def g__law_number : Rho → R :=
    (gSeq (gIfS (gBl (gEq (gVar 1) (gC (.int 0)))) (gRet (gSub' (gMod (gVar 0) (gC (.int 7))) (gC (.int 3)))) gNext)
    (gSeq (gIfS (gBl (gEq (gVar 1) (gC (.int 1)))) (gRet (gSub' (gMod (gVar 0) (gC (.int 101))) (gC (.int 50)))) gNext)
    (gSeq (gIfS (gBl (gEq (gMod (gFdiv (gVar 0) (gC (.int 11))) (gC (.int 6))) (gC (.int 5)))) (gRet (gSub' (gSub' (gC (.int 0)) (gC (.int 2))) (gMod (gVar 0) (gC (.int 11))))) gNext)
    (gRet (gAdd (gC (.int 2)) (gMod (gVar 0) (gC (.int 11))))))))
def f__law_number : List PyData → O PyData := fnG 2 g__law_number
theorem ok__law_number (T : Top K mg xc cls) : OkAt P w K mg base cls xc "_law_number" ["_law_cell", "_law_kind_here"] 2 1 f__law_number :=
  okAt_of T.d__law_number sc__law_number g__law_number [] fun f cdv A outer s H E F0 hr => ⟨_, (pss_cons (ps_if (pt_cmpR (op_eqAll hr.units) (pv 1) pe_int (nomark _)) (pss_one (ps_ret (pe_op op_sub (pe_op op_mod (pv 0) pe_int) pe_int))) pss_nil)
      (pss_cons (ps_if (pt_cmpR (op_eqAll hr.units) (pv 1) pe_int (nomark _)) (pss_one (ps_ret (pe_op op_sub (pe_op op_mod (pv 0) pe_int) pe_int))) pss_nil)
      (pss_cons (ps_if (pt_cmpR (op_eqAll hr.units) (pe_op op_mod (pe_op op_fdivW (pv 0) pe_int) pe_int) pe_int (nomark _)) (pss_one (ps_ret (pe_op op_sub (pe_op op_sub pe_int pe_int) (pe_op op_mod (pv 0) pe_int)))) pss_nil)
      (pss_one (ps_ret (pe_op op_addAll pe_int (pe_op op_mod (pv 0) pe_int))))))),
    (fs_seq (own1 := []) (fs_if (own' := []) (ft_test (fe_op opf_eq (fe_var rfl) (fe_int 0))) (fs_ret (fe_op opf_sub (fe_op opf_mod (fe_var rfl) (fe_int 7)) (fe_int 3))) fs_next)
      (fs_seq (own1 := []) (fs_if (own' := []) (ft_test (fe_op opf_eq (fe_var rfl) (fe_int 1))) (fs_ret (fe_op opf_sub (fe_op opf_mod (fe_var rfl) (fe_int 101)) (fe_int 50))) fs_next)
      (fs_seq (own1 := []) (fs_if (own' := []) (ft_test (fe_op opf_eq (fe_op opf_mod (fe_op opf_fdiv (fe_var rfl) (fe_int 11)) (fe_int 6)) (fe_int 5))) (fs_ret (fe_op opf_sub (fe_op opf_sub (fe_int 0) (fe_int 2)) (fe_op opf_mod (fe_var rfl) (fe_int 11)))) fs_next)
      (fs_ret (fe_op opf_add (fe_int 2) (fe_op opf_mod (fe_var rfl) (fe_int 11)))))))⟩
/-! ### _law_bound -/
abbrev st__law_bound : Stmt := topS 58
theorem sc__law_bound : FnScope ["_law_cell", "_law_kind_here"] ["_law_cell", "_law_kind_here"] (defScope st__law_bound) := ⟨rfl, rfl, rfl, by decide +kernel, rfl, by decide +kernel, by decide +kernel⟩
def g__law_bound : Rho → R :=
    (gSeq (gIfS (gBl (gEq (gVar 1) (gC (.int 0)))) (gRet (gSub' (gMod (gVar 0) (gC (.int 41))) (gC (.int 12)))) gNext)
    (gSeq (gIfS (gAndT (gBl (gEq (gVar 1) (gC (.int 1)))) (gBl (gEq (gMod (gVar 0) (gC (.int 4))) (gC (.int 0))))) (gRet (gSub' (gMod (gFdiv (gVar 0) (gC (.int 4))) (gC (.int 4001))) (gC (.int 2000)))) gNext)
    (gSeq (gIfS (gBl (gEq (gVar 1) (gC (.int 1)))) (gRet (gSub' (gMod (gFdiv (gVar 0) (gC (.int 4))) (gC (.int 401))) (gC (.int 200)))) gNext)
    (gRet (gAdd (gC (.int 2)) (gMod (gVar 0) (gC (.int 31))))))))
def f__law_bound : List PyData → O PyData := fnG 2 g__law_bound
theorem ok__law_bound (T : Top K mg xc cls) : OkAt P w K mg base cls xc "_law_bound" ["_law_cell", "_law_kind_here"] 2 1 f__law_bound :=
  okAt_of T.d__law_bound sc__law_bound g__law_bound [] fun f cdv A outer s H E F0 hr => ⟨_, (pss_cons (ps_if (pt_cmpR (op_eqAll hr.units) (pv 1) pe_int (nomark _)) (pss_one (ps_ret (pe_op op_sub (pe_op op_mod (pv 0) pe_int) pe_int))) pss_nil)
      (pss_cons (ps_if (PW.pt (pw_and (pt_cmpR (op_eqAll hr.units) (pv 1) pe_int (nomark _)) (pw_and1 (pt_cmpR (op_eqAll hr.units) (pe_op op_mod (pv 0) pe_int) pe_int (nomark _))))) (pss_one (ps_ret (pe_op op_sub (pe_op op_mod (pe_op op_fdivW (pv 0) pe_int) pe_int) pe_int))) pss_nil)
      (pss_cons (ps_if (pt_cmpR (op_eqAll hr.units) (pv 1) pe_int (nomark _)) (pss_one (ps_ret (pe_op op_sub (pe_op op_mod (pe_op op_fdivW (pv 0) pe_int) pe_int) pe_int))) pss_nil)
      (pss_one (ps_ret (pe_op op_addAll pe_int (pe_op op_mod (pv 0) pe_int))))))),
    (fs_seq (own1 := []) (fs_if (own' := []) (ft_test (fe_op opf_eq (fe_var rfl) (fe_int 0))) (fs_ret (fe_op opf_sub (fe_op opf_mod (fe_var rfl) (fe_int 41)) (fe_int 12))) fs_next)
      (fs_seq (own1 := []) (fs_if (own' := []) (ft_and (ft_test (fe_op opf_eq (fe_var rfl) (fe_int 1))) (ft_test (fe_op opf_eq (fe_op opf_mod (fe_var rfl) (fe_int 4)) (fe_int 0)))) (fs_ret (fe_op opf_sub (fe_op opf_mod (fe_op opf_fdiv (fe_var rfl) (fe_int 4)) (fe_int 4001)) (fe_int 2000))) fs_next)
      (fs_seq (own1 := []) (fs_if (own' := []) (ft_test (fe_op opf_eq (fe_var rfl) (fe_int 1))) (fs_ret (fe_op opf_sub (fe_op opf_mod (fe_op opf_fdiv (fe_var rfl) (fe_int 4)) (fe_int 401)) (fe_int 200))) fs_next)
      (fs_ret (fe_op opf_add (fe_int 2) (fe_op opf_mod (fe_var rfl) (fe_int 31)))))))⟩
/-! ### _law_tops -/
abbrev st__law_tops : Stmt := topS 59
theorem sc__law_tops : FnScope ["_law_script", "_law_many", "_law_tops_here", "_law_k", "_law_cell"] ["_law_script"] (defScope st__law_tops) := ⟨rfl, rfl, rfl, by decide +kernel, rfl, by decide +kernel, by decide +kernel⟩
def g__law_tops : Rho → R :=
    (gSeq (gSet 1 (gIx (gLst (gConsA (gC (.int 1)) (gConsA (gC (.int 2)) (gConsA (gC (.int 3)) (gConsA (gC (.int 3)) gNilA))))) (gMod (gFn 2 f__law_cell_at (gConsA (gVar 0) (gConsA (gC (.int 0)) gNilA))) (gC (.int 4)))))
    (gSeq (gSet 2 (gComp [3] (aName 3) gYes (gMod (gFdiv (gFn 2 f__law_cell_at (gConsA (gVar 0) (gConsA (gAdd (gC (.int 1)) (gVar 3)) gNilA))) (gC (.int 4))) (gC (.int 5))) (gRng1 (gConsA (gVar 1) gNilA))))
    (gSeq (gSet 4 (gFn 2 f__law_cell_at (gConsA (gVar 0) (gConsA (gC (.int 1)) gNilA))))
    (gSeq (gIfS (gBl (gEq (gMod (gVar 4) (gC (.int 16))) (gC (.int 9)))) (gFor (aName 3) (gRng1 (gConsA (gB bMin (gConsA (gVar 1) (gConsA (gC (.int 2)) gNilA))) gNilA)) (gSetIx 2 (gVar 3) (gMod (gFdiv (gFn 2 f__law_cell_at (gConsA (gVar 0) (gConsA (gAdd (gC (.int 1)) (gVar 3)) gNilA))) (gC (.int 16))) (gC (.int 21))))) gNext)
    (gSeq (gIfS (gBl (gEq (gMod (gVar 4) (gC (.int 4))) (gC (.int 3)))) (gSetIx 2 (gMod (gFdiv (gFn 2 f__law_cell_at (gConsA (gVar 0) (gConsA (gC (.int 0)) gNilA))) (gC (.int 768))) (gVar 1)) (gMod (gFdiv (gVar 4) (gC (.int 4))) (gC (.int 21)))) gNext)
    (gRet (gVar 2)))))))
def f__law_tops : List PyData → O PyData := fnG 5 g__law_tops
theorem ok__law_tops (T : Top K mg xc cls) : OkAt P w K mg base cls xc "_law_tops" ["_law_script"] 1 2 f__law_tops :=
  okAt_of T.d__law_tops sc__law_tops g__law_tops [2] fun f cdv A outer s H E F0 hr => ⟨_, (pss_cons (ps_set (i := 1) sc__law_tops.nd rfl (by first | exact Or.inl rfl | exact Or.inr rfl) (pe_ix ix_seq (pe_lst (pa_cons pe_int (pa_cons pe_int (pa_cons pe_int (pa_cons pe_int pa_nil))))) (pe_op op_mod (pe_callO (ok__law_cell_at T) hr (by decide) (by rfl) (takes_of rfl rfl rfl rfl) (pa_cons (pv 0) (pa_cons pe_int pa_nil))) pe_int) (fun _ _ => rfl)))
      (pss_cons (ps_setLc (i := 2) (own := [("_law_k", 3)]) rfl sc__law_tops.nd rfl rfl (sw_true rfl rfl rfl (by decide +kernel)) (pi_range1 (by rfl) T.n_range (pa_cons (pv 1) pa_nil)) (blkOk_by (N := ["_law_script", "_law_many", "_law_tops_here", "_law_k", "_law_cell"]) (sc := defScope st__law_tops) (own := [("_law_k", 3)]) (by decide +kernel)) (fun _ _ _ _ _ => (pg_name (i := 3) sc__law_tops.nd rfl (by first | exact Or.inl rfl | exact Or.inr rfl))) (fun _ _ _ _ _ => pts_nil) (fun _ _ _ _ _ => (pe_op op_mod (pe_op op_fdivW (pe_callO (ok__law_cell_at T) hr (by decide) (by rfl) takes0 (pa_cons (pv 0) (pa_cons (pe_op op_addAll pe_int (pv 3)) pa_nil))) pe_int) pe_int)))
      (pss_cons (ps_set (i := 4) sc__law_tops.nd rfl (by first | exact Or.inl rfl | exact Or.inr rfl) (pe_callO (ok__law_cell_at T) hr (by decide) (by rfl) (takes_of rfl rfl rfl rfl) (pa_cons (pv 0) (pa_cons pe_int pa_nil))))
      (pss_cons (ps_if (pt_cmpR (op_eqAll hr.units) (pe_op op_mod (pv 4) pe_int) pe_int (nomark _)) (pss_one (ps_for (passes_of rfl) rfl (pi_range1 (by rfl) T.n_range (pa_cons (pe_callB (cr_minAll rfl) (by rfl) T.n_min bt_min (pa_cons (pv 1) (pa_cons pe_int pa_nil))) pa_nil)) (pg_name (i := 3) sc__law_tops.nd rfl (by first | exact Or.inl rfl | exact Or.inr rfl)) (pss_one (ps_asg (pe_op op_mod (pe_op op_fdivW (pe_callO (ok__law_cell_at T) hr (by decide) (by rfl) (takes_of rfl rfl rfl rfl) (pa_cons (pv 0) (pa_cons (pe_op op_addAll pe_int (pv 3)) pa_nil))) pe_int) pe_int) (pg_sub (pv 2) (pv 3) set_list))))) pss_nil)
      (pss_cons (ps_if (pt_cmpR (op_eqAll hr.units) (pe_op op_mod (pv 4) pe_int) pe_int (nomark _)) (pss_one (ps_asg (pe_op op_mod (pe_op op_fdivW (pv 4) pe_int) pe_int) (pg_sub (pv 2) (pe_op op_mod (pe_op op_fdivW (pe_callO (ok__law_cell_at T) hr (by decide) (by rfl) (takes_of rfl rfl rfl rfl) (pa_cons (pv 0) (pa_cons pe_int pa_nil))) pe_int) (pv 1)) set_list))) pss_nil)
      (pss_one (ps_ret (pv 2)))))))),
    (fs_seq (own1 := []) (fs_set (fe_op opf_ix (fe_lst (fa_cons (fe_int 1) (fa_cons (fe_int 2) (fa_cons (fe_int 3) (fa_cons (fe_int 3) fa_nil))))) (fe_op opf_mod (fe_call rfl (fa_cons (fe_var rfl) (fa_cons (fe_int 0) fa_nil))) (fe_int 4))) rfl)
      (fs_seq (own1 := [2]) (fs_setO (own' := [2]) (fo_comp (vs := [3]) (fi_range1 (fa_cons (fe_var rfl) fa_nil)) (fc_name rfl rfl) aName_ex ft_yes (fe_op opf_mod (fe_op opf_fdiv (fe_call rfl (fa_cons (fe_var rfl) (fa_cons (fe_op opf_add (fe_int 1) (fe_var rfl)) fa_nil))) (fe_int 4)) (fe_int 5))) gComp_list rfl)
      (fs_seq (own1 := [2]) (fs_set (fe_call rfl (fa_cons (fe_var rfl) (fa_cons (fe_int 1) fa_nil))) rfl)
      (fs_seq (own1 := [2]) (fs_if (own' := [2]) (ft_test (fe_op opf_eq (fe_op opf_mod (fe_var rfl) (fe_int 16)) (fe_int 9))) (fs_for (fi_range1 (fa_cons (fe_callB cf_min (fa_cons (fe_var rfl) (fa_cons (fe_int 2) fa_nil))) fa_nil)) (fg_name rfl) aName_ex (fs_setIx (fe_op opf_mod (fe_op opf_fdiv (fe_call rfl (fa_cons (fe_var rfl) (fa_cons (fe_op opf_add (fe_int 1) (fe_var rfl)) fa_nil))) (fe_int 16)) (fe_int 21)) (fe_var rfl) rfl)) fs_next)
      (fs_seq (own1 := [2]) (fs_if (own' := [2]) (ft_test (fe_op opf_eq (fe_op opf_mod (fe_var rfl) (fe_int 4)) (fe_int 3))) (fs_setIx (fe_op opf_mod (fe_op opf_fdiv (fe_var rfl) (fe_int 4)) (fe_int 21)) (fe_op opf_mod (fe_op opf_fdiv (fe_call rfl (fa_cons (fe_var rfl) (fa_cons (fe_int 0) fa_nil))) (fe_int 768)) (fe_var rfl)) rfl) fs_next)
      (fs_ret (fe_var rfl)))))))⟩
/-! ### _law_kind -/
abbrev st__law_kind : Stmt := topS 60
theorem sc__law_kind : FnScope ["_law_script"] ["_law_script"] (defScope st__law_kind) := ⟨rfl, rfl, rfl, by decide +kernel, rfl, by decide +kernel, by decide +kernel⟩
def g__law_kind : Rho → R :=
    (gRet (gMod (gFdiv (gFn 2 f__law_cell_at (gConsA (gVar 0) (gConsA (gC (.int 0)) gNilA))) (gC (.int 4))) (gC (.int 4))))
def f__law_kind : List PyData → O PyData := fnG 1 g__law_kind
theorem ok__law_kind (T : Top K mg xc cls) : OkAt P w K mg base cls xc "_law_kind" ["_law_script"] 1 2 f__law_kind :=
  okAt_of T.d__law_kind sc__law_kind g__law_kind [] fun f cdv A outer s H E F0 hr => ⟨_, (pss_one (ps_ret (pe_op op_mod (pe_op op_fdivW (pe_callO (ok__law_cell_at T) hr (by decide) (by rfl) (takes_of rfl rfl rfl rfl) (pa_cons (pv 0) (pa_cons pe_int pa_nil))) pe_int) pe_int))),
    (fs_ret (fe_op opf_mod (fe_op opf_fdiv (fe_call rfl (fa_cons (fe_var rfl) (fa_cons (fe_int 0) fa_nil))) (fe_int 4)) (fe_int 4)))⟩
/-! ### _law_gain -/
abbrev st__law_gain : Stmt := topS 61
theorem sc__law_gain : FnScope ["_law_script", "_law_many", "_law_k"] ["_law_script"] (defScope st__law_gain) := ⟨rfl, rfl, rfl, by decide +kernel, rfl, by decide +kernel, by decide +kernel⟩
def g__law_gain : Rho → R :=
    (gSeq (gSet 1 (gIx (gLst (gConsA (gC (.int 1)) (gConsA (gC (.int 2)) (gConsA (gC (.int 3)) (gConsA (gC (.int 3)) gNilA))))) (gMod (gFn 2 f__law_cell_at (gConsA (gVar 0) (gConsA (gC (.int 0)) gNilA))) (gC (.int 4)))))
    (gRet (gComp [2] (aName 2) gYes (gFn 2 f__law_number (gConsA (gFn 2 f__law_cell_at (gConsA (gVar 0) (gConsA (gAdd (gC (.int 4)) (gVar 2)) gNilA))) (gConsA (gFn 1 f__law_kind (gConsA (gVar 0) gNilA)) gNilA))) (gRng1 (gConsA (gVar 1) gNilA)))))
def f__law_gain : List PyData → O PyData := fnG 3 g__law_gain
theorem ok__law_gain (T : Top K mg xc cls) : OkAt P w K mg base cls xc "_law_gain" ["_law_script"] 1 3 f__law_gain :=
  okAt_of T.d__law_gain sc__law_gain g__law_gain [] fun f cdv A outer s H E F0 hr => ⟨_, (pss_cons (ps_set (i := 1) sc__law_gain.nd rfl (by first | exact Or.inl rfl | exact Or.inr rfl) (pe_ix ix_seq (pe_lst (pa_cons pe_int (pa_cons pe_int (pa_cons pe_int (pa_cons pe_int pa_nil))))) (pe_op op_mod (pe_callO (ok__law_cell_at T) hr (by decide) (by rfl) (takes_of rfl rfl rfl rfl) (pa_cons (pv 0) (pa_cons pe_int pa_nil))) pe_int) (fun _ _ => rfl)))
      (pss_one (ps_ret (pe_lc (own := [("_law_k", 2)]) rfl sc__law_gain.nd (pi_range1 (by rfl) T.n_range (pa_cons (pv 1) pa_nil)) (blkOk_by (N := ["_law_script", "_law_many", "_law_k"]) (sc := defScope st__law_gain) (own := [("_law_k", 2)]) (by decide +kernel)) (fun _ _ _ _ _ => (pg_name (i := 2) sc__law_gain.nd rfl (by first | exact Or.inl rfl | exact Or.inr rfl))) (fun _ _ _ _ _ => pts_nil) (fun _ _ _ _ _ => (pe_callO (ok__law_number T) hr (by decide) (by rfl) takes0 (pa_cons (pe_callO (ok__law_cell_at T) hr (by decide) (by rfl) takes0 (pa_cons (pv 0) (pa_cons (pe_op op_addAll pe_int (pv 2)) pa_nil))) (pa_cons (pe_callO (ok__law_kind T) hr (by decide) (by rfl) takes0 (pa_cons (pv 0) pa_nil)) pa_nil)))))))),
    (fs_seq (own1 := []) (fs_set (fe_op opf_ix (fe_lst (fa_cons (fe_int 1) (fa_cons (fe_int 2) (fa_cons (fe_int 3) (fa_cons (fe_int 3) fa_nil))))) (fe_op opf_mod (fe_call rfl (fa_cons (fe_var rfl) (fa_cons (fe_int 0) fa_nil))) (fe_int 4))) rfl)
      (fs_ret (fe_comp (vs := [2]) (fi_range1 (fa_cons (fe_var rfl) fa_nil)) (fc_name rfl rfl) aName_ex ft_yes (fe_call rfl (fa_cons (fe_call rfl (fa_cons (fe_var rfl) (fa_cons (fe_op opf_add (fe_int 4) (fe_var rfl)) fa_nil))) (fa_cons (fe_call rfl (fa_cons (fe_var rfl) fa_nil)) fa_nil))))))⟩
/-! ### _law_rows -/
abbrev st__law_rows : Stmt := topS 62
theorem sc__law_rows : FnScope ["_law_script", "_law_many", "_law_kind_here", "_law_size", "_law_rows_here", "_law_at", "_law_first", "_law_numbers", "_law_last", "_law_word", "_law_k"] ["_law_script"] (defScope st__law_rows) := ⟨rfl, rfl, rfl, by decide +kernel, rfl, by decide +kernel, by decide +kernel⟩
def g__law_rows : Rho → R :=
    (gSeq (gSet 1 (gIx (gLst (gConsA (gC (.int 1)) (gConsA (gC (.int 2)) (gConsA (gC (.int 3)) (gConsA (gC (.int 3)) gNilA))))) (gMod (gFn 2 f__law_cell_at (gConsA (gVar 0) (gConsA (gC (.int 0)) gNilA))) (gC (.int 4)))))
    (gSeq (gSet 2 (gFn 1 f__law_kind (gConsA (gVar 0) gNilA)))
    (gSeq (gSet 3 (gMod (gFdiv (gFn 2 f__law_cell_at (gConsA (gVar 0) (gConsA (gC (.int 0)) gNilA))) (gC (.int 16))) (gC (.int 6))))
    (gSeq (gIfS (gBl (gEq (gMod (gFdiv (gFn 2 f__law_cell_at (gConsA (gVar 0) (gConsA (gC (.int 0)) gNilA))) (gC (.int 96))) (gC (.int 8))) (gC (.int 3)))) (gSet 3 (gC (.int 6))) gNext)
    (gSeq (gSet 4 (gLst gNilA))
    (gSeq (gFor (aName 5) (gRng1 (gConsA (gVar 3) gNilA)) (gSeq (gSet 6 (gAdd (gC (.int 7)) (gMul (gC (.int 4)) (gVar 5))))
    (gSeq (gSet 7 (gComp [10] (aName 10) gYes (gFn 2 f__law_number (gConsA (gFn 2 f__law_cell_at (gConsA (gVar 0) (gConsA (gAdd (gVar 6) (gVar 10)) gNilA))) (gConsA (gVar 2) gNilA))) (gRng1 (gConsA (gVar 1) gNilA))))
    (gSeq (gSet 8 (gFn 2 f__law_cell_at (gConsA (gVar 0) (gConsA (gAdd (gVar 6) (gC (.int 3))) gNilA))))
    (gSeq (gSet 9 (gIx (gLst (gConsA (gC (.str "most")) (gConsA (gC (.str "least")) gNilA))) (gMod (gVar 8) (gC (.int 2)))))
    (gSeq (gIfS (gBl (gGt (gVar 2) (gC (.int 1)))) (gSet 9 (gIx (gLst (gConsA (gC (.str "most")) (gConsA (gC (.str "most")) (gConsA (gC (.str "most")) (gConsA (gC (.str "least")) gNilA))))) (gMod (gVar 8) (gC (.int 4))))) gNext)
    (gAppend 4 (gTup (gConsA (gB bTup (gConsA (gVar 7) gNilA)) (gConsA (gVar 9) (gConsA (gFn 2 f__law_bound (gConsA (gFdiv (gVar 8) (gC (.int 4))) (gConsA (gVar 2) gNilA))) gNilA)))))))))))
    (gRet (gVar 4))))))))
def f__law_rows : List PyData → O PyData := fnG 11 g__law_rows
theorem ok__law_rows (T : Top K mg xc cls) : OkAt P w K mg base cls xc "_law_rows" ["_law_script"] 1 3 f__law_rows :=
  okAt_of T.d__law_rows sc__law_rows g__law_rows [4] fun f cdv A outer s H E F0 hr => ⟨_, (pss_cons (ps_set (i := 1) sc__law_rows.nd rfl (by first | exact Or.inl rfl | exact Or.inr rfl) (pe_ix ix_seq (pe_lst (pa_cons pe_int (pa_cons pe_int (pa_cons pe_int (pa_cons pe_int pa_nil))))) (pe_op op_mod (pe_callO (ok__law_cell_at T) hr (by decide) (by rfl) (takes_of rfl rfl rfl rfl) (pa_cons (pv 0) (pa_cons pe_int pa_nil))) pe_int) (fun _ _ => rfl)))
      (pss_cons (ps_set (i := 2) sc__law_rows.nd rfl (by first | exact Or.inl rfl | exact Or.inr rfl) (pe_callO (ok__law_kind T) hr (by decide) (by rfl) (takes_of rfl rfl rfl rfl) (pa_cons (pv 0) pa_nil)))
      (pss_cons (ps_set (i := 3) sc__law_rows.nd rfl (by first | exact Or.inl rfl | exact Or.inr rfl) (pe_op op_mod (pe_op op_fdivW (pe_callO (ok__law_cell_at T) hr (by decide) (by rfl) (takes_of rfl rfl rfl rfl) (pa_cons (pv 0) (pa_cons pe_int pa_nil))) pe_int) pe_int))
      (pss_cons (ps_if (pt_cmpR (op_eqAll hr.units) (pe_op op_mod (pe_op op_fdivW (pe_callO (ok__law_cell_at T) hr (by decide) (by rfl) (takes_of rfl rfl rfl rfl) (pa_cons (pv 0) (pa_cons pe_int pa_nil))) pe_int) pe_int) pe_int (nomark _)) (pss_one (ps_set (i := 3) sc__law_rows.nd rfl (by first | exact Or.inl rfl | exact Or.inr rfl) pe_int)) pss_nil)
      (pss_cons (ps_set (i := 4) sc__law_rows.nd rfl (by first | exact Or.inl rfl | exact Or.inr rfl) (pe_lst pa_nil))
      (pss_cons (ps_for (passes_of rfl) rfl (pi_range1 (by rfl) T.n_range (pa_cons (pv 3) pa_nil)) (pg_name (i := 5) sc__law_rows.nd rfl (by first | exact Or.inl rfl | exact Or.inr rfl)) (pss_cons (ps_set (i := 6) sc__law_rows.nd rfl (by first | exact Or.inl rfl | exact Or.inr rfl) (pe_op op_addAll pe_int (pe_op op_mulAll pe_int (pv 5))))
      (pss_cons (ps_setLc (i := 7) (own := [("_law_k", 10)]) rfl sc__law_rows.nd rfl rfl (sw_true rfl rfl rfl (by decide +kernel)) (pi_range1 (by rfl) T.n_range (pa_cons (pv 1) pa_nil)) (blkOk_by (N := ["_law_script", "_law_many", "_law_kind_here", "_law_size", "_law_rows_here", "_law_at", "_law_first", "_law_numbers", "_law_last", "_law_word", "_law_k"]) (sc := defScope st__law_rows) (own := [("_law_k", 10)]) (by decide +kernel)) (fun _ _ _ _ _ => (pg_name (i := 10) sc__law_rows.nd rfl (by first | exact Or.inl rfl | exact Or.inr rfl))) (fun _ _ _ _ _ => pts_nil) (fun _ _ _ _ _ => (pe_callO (ok__law_number T) hr (by decide) (by rfl) takes0 (pa_cons (pe_callO (ok__law_cell_at T) hr (by decide) (by rfl) takes0 (pa_cons (pv 0) (pa_cons (pe_op op_addAll (pv 6) (pv 10)) pa_nil))) (pa_cons (pv 2) pa_nil)))))
      (pss_cons (ps_set (i := 8) sc__law_rows.nd rfl (by first | exact Or.inl rfl | exact Or.inr rfl) (pe_callO (ok__law_cell_at T) hr (by decide) (by rfl) (takes_of rfl rfl rfl rfl) (pa_cons (pv 0) (pa_cons (pe_op op_addAll (pv 6) pe_int) pa_nil))))
      (pss_cons (ps_set (i := 9) sc__law_rows.nd rfl (by first | exact Or.inl rfl | exact Or.inr rfl) (pe_ix ix_seq (pe_lst (pa_cons pe_str (pa_cons pe_str pa_nil))) (pe_op op_mod (pv 8) pe_int) (fun _ _ => rfl)))
      (pss_cons (ps_if (pt_cmpR op_gt (pv 2) pe_int (nomark _)) (pss_one (ps_set (i := 9) sc__law_rows.nd rfl (by first | exact Or.inl rfl | exact Or.inr rfl) (pe_ix ix_seq (pe_lst (pa_cons pe_str (pa_cons pe_str (pa_cons pe_str (pa_cons pe_str pa_nil))))) (pe_op op_mod (pv 8) pe_int) (fun _ _ => rfl)))) pss_nil)
      (pss_one (ps_expr (pe_bm PySem.F.plainAttrs_list PySem.F.slot_list_append PySem.F.type_list_append mt_append (pv 4) (pa_cons (pe_tup (pa_cons (pe_callTy call_tuple_of (by rfl) T.n_tuple bt_tuple (pa_cons (pv 7) pa_nil)) (pa_cons (pv 9) (pa_cons (pe_callO (ok__law_bound T) hr (by decide) (by rfl) (takes_of rfl rfl rfl rfl) (pa_cons (pe_op op_fdivW (pv 8) pe_int) (pa_cons (pv 2) pa_nil))) pa_nil)))) pa_nil))))))))))
      (pss_one (ps_ret (pv 4))))))))),
    (fs_seq (own1 := []) (fs_set (fe_op opf_ix (fe_lst (fa_cons (fe_int 1) (fa_cons (fe_int 2) (fa_cons (fe_int 3) (fa_cons (fe_int 3) fa_nil))))) (fe_op opf_mod (fe_call rfl (fa_cons (fe_var rfl) (fa_cons (fe_int 0) fa_nil))) (fe_int 4))) rfl)
      (fs_seq (own1 := []) (fs_set (fe_call rfl (fa_cons (fe_var rfl) fa_nil)) rfl)
      (fs_seq (own1 := []) (fs_set (fe_op opf_mod (fe_op opf_fdiv (fe_call rfl (fa_cons (fe_var rfl) (fa_cons (fe_int 0) fa_nil))) (fe_int 16)) (fe_int 6)) rfl)
      (fs_seq (own1 := []) (fs_if (own' := []) (ft_test (fe_op opf_eq (fe_op opf_mod (fe_op opf_fdiv (fe_call rfl (fa_cons (fe_var rfl) (fa_cons (fe_int 0) fa_nil))) (fe_int 96)) (fe_int 8)) (fe_int 3))) (fs_set (fe_int 6) rfl) fs_next)
      (fs_seq (own1 := [4]) (fs_setO (own' := [4]) (fo_lst fa_nil) gLst_list rfl)
      (fs_seq (own1 := [4]) (fs_for (fi_range1 (fa_cons (fe_var rfl) fa_nil)) (fg_name rfl) aName_ex (fs_seq (own1 := [4]) (fs_set (fe_op opf_add (fe_int 7) (fe_op opf_mul (fe_int 4) (fe_var rfl))) rfl)
      (fs_seq (own1 := [4]) (fs_set (fe_comp (vs := [10]) (fi_range1 (fa_cons (fe_var rfl) fa_nil)) (fc_name rfl rfl) aName_ex ft_yes (fe_call rfl (fa_cons (fe_call rfl (fa_cons (fe_var rfl) (fa_cons (fe_op opf_add (fe_var rfl) (fe_var rfl)) fa_nil))) (fa_cons (fe_var rfl) fa_nil)))) rfl)
      (fs_seq (own1 := [4]) (fs_set (fe_call rfl (fa_cons (fe_var rfl) (fa_cons (fe_op opf_add (fe_var rfl) (fe_int 3)) fa_nil))) rfl)
      (fs_seq (own1 := [4]) (fs_set (fe_op opf_ix (fe_lst (fa_cons (fe_str "most") (fa_cons (fe_str "least") fa_nil))) (fe_op opf_mod (fe_var rfl) (fe_int 2))) rfl)
      (fs_seq (own1 := [4]) (fs_if (own' := [4]) (ft_test (fe_op opf_gt (fe_var rfl) (fe_int 1))) (fs_set (fe_op opf_ix (fe_lst (fa_cons (fe_str "most") (fa_cons (fe_str "most") (fa_cons (fe_str "most") (fa_cons (fe_str "least") fa_nil))))) (fe_op opf_mod (fe_var rfl) (fe_int 4))) rfl) fs_next)
      (fs_append (fe_tup (fa_cons (fe_callB cf_tup (fa_cons (fe_var rfl) fa_nil)) (fa_cons (fe_var rfl) (fa_cons (fe_call rfl (fa_cons (fe_op opf_fdiv (fe_var rfl) (fe_int 4)) (fa_cons (fe_var rfl) fa_nil))) fa_nil)))) rfl)))))))
      (fs_ret (fe_var rfl))))))))⟩
/-! ### _law_sum -/
abbrev st__law_sum : Stmt := topS 63
theorem sc__law_sum : FnScope ["_law_numbers", "_law_point", "_law_whole_here", "_law_k"] ["_law_numbers", "_law_point"] (defScope st__law_sum) := ⟨rfl, rfl, rfl, by decide +kernel, rfl, by decide +kernel, by decide +kernel⟩
def g__law_sum : Rho → R :=
    (gSeq (gSet 2 (gC (.int 0)))
    (gSeq (gFor (aName 3) (gRng1 (gConsA (gB bLen (gConsA (gVar 1) gNilA)) gNilA)) (gSet 2 (gAdd (gVar 2) (gMul (gIx (gVar 0) (gVar 3)) (gIx (gVar 1) (gVar 3))))))
    (gRet (gVar 2))))
def f__law_sum : List PyData → O PyData := fnG 4 g__law_sum
theorem ok__law_sum (T : Top K mg xc cls) : OkAt P w K mg base cls xc "_law_sum" ["_law_numbers", "_law_point"] 2 1 f__law_sum :=
  okAt_of T.d__law_sum sc__law_sum g__law_sum [] fun f cdv A outer s H E F0 hr => ⟨_, (pss_cons (ps_set (i := 2) sc__law_sum.nd rfl (by first | exact Or.inl rfl | exact Or.inr rfl) pe_int)
      (pss_cons (ps_for (passes_of rfl) rfl (pi_range1 (by rfl) T.n_range (pa_cons (pe_callB call_len (by rfl) T.n_len bt_len (pa_cons (pv 1) pa_nil)) pa_nil)) (pg_name (i := 3) sc__law_sum.nd rfl (by first | exact Or.inl rfl | exact Or.inr rfl)) (pss_one (ps_set (i := 2) sc__law_sum.nd rfl (by first | exact Or.inl rfl | exact Or.inr rfl) (pe_op op_addAll (pv 2) (pe_op op_mulAll (pe_ix ix_seq (pv 0) (pv 3) (fun _ _ => rfl)) (pe_ix ix_seq (pv 1) (pv 3) (fun _ _ => rfl)))))))
      (pss_one (ps_ret (pv 2))))),
    (fs_seq (own1 := []) (fs_set (fe_int 0) rfl)
      (fs_seq (own1 := []) (fs_for (fi_range1 (fa_cons (fe_callB cf_len (fa_cons (fe_var rfl) fa_nil)) fa_nil)) (fg_name rfl) aName_ex (fs_set (fe_op opf_add (fe_var rfl) (fe_op opf_mul (fe_op opf_ix (fe_var rfl) (fe_var rfl)) (fe_op opf_ix (fe_var rfl) (fe_var rfl)))) rfl))
      (fs_ret (fe_var rfl))))⟩
/-! ### _law_meets -/
abbrev st__law_meets : Stmt := topS 64
theorem sc__law_meets : FnScope ["_law_tops_here", "_law_rows_here", "_law_point", "_law_k", "_law_row", "_law_found"] ["_law_tops_here", "_law_rows_here", "_law_point"] (defScope st__law_meets) := ⟨rfl, rfl, rfl, by decide +kernel, rfl, by decide +kernel, by decide +kernel⟩
def g__law_meets : Rho → R :=
    (gSeq (gFor (aName 3) (gRng1 (gConsA (gB bLen (gConsA (gVar 0) gNilA)) gNilA)) (gIfS (gOrT (gBl (gLt (gIx (gVar 2) (gVar 3)) (gC (.int 0)))) (gBl (gGt (gIx (gVar 2) (gVar 3)) (gIx (gVar 0) (gVar 3))))) (gRet (gC (.bool false))) gNext))
    (gSeq (gFor (aName 4) (gItA (gVar 1)) (gSeq (gSet 5 (gFn 2 f__law_sum (gConsA (gIx (gVar 4) (gC (.int 0))) (gConsA (gVar 2) gNilA))))
    (gIfS (gOrT (gAndT (gBl (gEq (gIx (gVar 4) (gC (.int 1))) (gC (.str "most")))) (gBl (gGt (gVar 5) (gIx (gVar 4) (gC (.int 2)))))) (gAndT (gBl (gEq (gIx (gVar 4) (gC (.int 1))) (gC (.str "least")))) (gBl (gLt (gVar 5) (gIx (gVar 4) (gC (.int 2))))))) (gRet (gC (.bool false))) gNext)))
    (gRet (gC (.bool true)))))
def f__law_meets : List PyData → O PyData := fnG 6 g__law_meets
theorem ok__law_meets (T : Top K mg xc cls) : OkAt P w K mg base cls xc "_law_meets" ["_law_tops_here", "_law_rows_here", "_law_point"] 3 2 f__law_meets :=
  okAt_of T.d__law_meets sc__law_meets g__law_meets [] fun f cdv A outer s H E F0 hr => ⟨_, (pss_cons (ps_for (passes_of rfl) rfl (pi_range1 (by rfl) T.n_range (pa_cons (pe_callB call_len (by rfl) T.n_len bt_len (pa_cons (pv 0) pa_nil)) pa_nil)) (pg_name (i := 3) sc__law_meets.nd rfl (by first | exact Or.inl rfl | exact Or.inr rfl)) (pss_one (ps_if (PW.pt (pw_or (pt_cmpR op_lt (pe_ix ix_seq (pv 2) (pv 3) (fun _ _ => rfl)) pe_int (nomark _)) (pw_or1 (pt_cmpR op_gt (pe_ix ix_seq (pv 2) (pv 3) (fun _ _ => rfl)) (pe_ix ix_seq (pv 0) (pv 3) (fun _ _ => rfl)) (nomark _))))) (pss_one (ps_ret pe_bl)) pss_nil)))
      (pss_cons (ps_for (passes_of rfl) rfl (pi_any (pv 1)) (pg_name (i := 4) sc__law_meets.nd rfl (by first | exact Or.inl rfl | exact Or.inr rfl)) (pss_cons (ps_set (i := 5) sc__law_meets.nd rfl (by first | exact Or.inl rfl | exact Or.inr rfl) (pe_callO (ok__law_sum T) hr (by decide) (by rfl) (takes_of rfl rfl rfl rfl) (pa_cons (pe_ix ix_seq (pv 4) pe_int (fun _ _ => rfl)) (pa_cons (pv 2) pa_nil))))
      (pss_one (ps_if (PW.pt (pw_or (PW.pt (pw_and (pt_cmpR (op_eqAll hr.units) (pe_ix ix_seq (pv 4) pe_int (fun _ _ => rfl)) pe_str (nomark _)) (pw_and1 (pt_cmpR op_gt (pv 5) (pe_ix ix_seq (pv 4) pe_int (fun _ _ => rfl)) (nomark _))))) (pw_or1 (PW.pt (pw_and (pt_cmpR (op_eqAll hr.units) (pe_ix ix_seq (pv 4) pe_int (fun _ _ => rfl)) pe_str (nomark _)) (pw_and1 (pt_cmpR op_lt (pv 5) (pe_ix ix_seq (pv 4) pe_int (fun _ _ => rfl)) (nomark _)))))))) (pss_one (ps_ret pe_bl)) pss_nil))))
      (pss_one (ps_ret pe_bl)))),
    (fs_seq (own1 := []) (fs_for (fi_range1 (fa_cons (fe_callB cf_len (fa_cons (fe_var rfl) fa_nil)) fa_nil)) (fg_name rfl) aName_ex (fs_if (own' := []) (ft_or (ft_test (fe_op opf_lt (fe_op opf_ix (fe_var rfl) (fe_var rfl)) (fe_int 0))) (ft_test (fe_op opf_gt (fe_op opf_ix (fe_var rfl) (fe_var rfl)) (fe_op opf_ix (fe_var rfl) (fe_var rfl))))) (fs_ret (fe_bool false)) fs_next))
      (fs_seq (own1 := []) (fs_for (fi_any (fe_var rfl)) (fg_name rfl) aName_ex (fs_seq (own1 := []) (fs_set (fe_call rfl (fa_cons (fe_op opf_ix (fe_var rfl) (fe_int 0)) (fa_cons (fe_var rfl) fa_nil))) rfl)
      (fs_if (own' := []) (ft_or (ft_and (ft_test (fe_op opf_eq (fe_op opf_ix (fe_var rfl) (fe_int 1)) (fe_str "most"))) (ft_test (fe_op opf_gt (fe_var rfl) (fe_op opf_ix (fe_var rfl) (fe_int 2))))) (ft_and (ft_test (fe_op opf_eq (fe_op opf_ix (fe_var rfl) (fe_int 1)) (fe_str "least"))) (ft_test (fe_op opf_lt (fe_var rfl) (fe_op opf_ix (fe_var rfl) (fe_int 2)))))) (fs_ret (fe_bool false)) fs_next)))
      (fs_ret (fe_bool true))))⟩
end
end K11

set_option Elab.async false
set_option linter.all false
set_option maxRecDepth 100000
/-! Lists that a call changes for its caller: kept beside the state, by their addresses. -/
namespace Fn
open PySem PySem.Spec L2
def hide (L : List Addr) (H : Hp) : Hp := fun b => if b ∈ L then none else H b
theorem hide_in {L : List Addr} {H : Hp} {a : Addr} (h : a ∈ L) : hide L H a = none := if_pos h
theorem hide_out {L : List Addr} {H : Hp} {a : Addr} (h : a ∉ L) : hide L H a = H a := if_neg h
theorem hide_some {L : List Addr} {H : Hp} {a : Addr} {o : HO} (h : hide L H a = some o) : a ∉ L ∧ H a = some o := by
  unfold hide at h
  split at h
  · cases h
  · exact ⟨by assumption, h⟩
section
variable {K : PySem.W.Frag} {cls xc : Nat → Addr} {B : Hp × Hp × List (Addr × Str)} {F H F' H' F0 H0 : Hp} {σ : L2.St} {ρ : Rho} {a b p : Addr} {es : List PyData} {L L' : List Addr}
theorem Ext.hide {G : Hp} (e : Ext F0 G F H) (h : ∀ a ∈ L', G a = none ∧ F a = none) : Ext F0 G F (Fn.hide L' H) where
  f := e.f
  h := fun x o q => by
    rw [hide_out fun z => by rw [(h x z).1] at q; cases q]
    exact e.h x o q
  s := fun x o q => by
    rw [hide_out fun z => by rw [(h x z).2] at q; cases q]
    exact e.s x o q
  n := e.n
  t := e.t
theorem Ext.hide1 {G : Hp} (e : Ext F0 G F H) (h : G a = none) (f : F a = none) : Ext F0 G F (Fn.hide [a] H) := e.hide fun x hx => by
  rw [List.mem_singleton.mp hx]
  exact ⟨h, f⟩
theorem ext_hid0 (s : Same F H) (h : ∀ a ∈ L, F a = none) : Ext F (Fn.hide L H) F H :=
  ⟨Same.refl _, fun x o q => (hide_some q).2, s, fun _ _ q => .inl q, fun _ _ q => q⟩
theorem Ext.unhide (e : Ext F H F' H') (h : ∀ a ∈ L, F a = none ∧ ∃ o, H a = some o) : Ext F (Fn.hide L H) F' H' :=
  ⟨e.f, fun x o q => e.h x o (hide_some q).2, e.s, fun x o q => (e.n x o q).elim .inl fun z => .inr (by
    unfold Fn.hide
    split
    · rfl
    · exact z), e.t⟩
theorem Own1.hid (o : Own1 K cls F H a es) (h : a ∉ L) : Own1 K cls F (Fn.hide L H) a es := by
  obtain ⟨ys, h1, h2, h3⟩ := o
  exact ⟨ys, by rw [hide_out h]; exact h1, h2, h3⟩
theorem Own1.hid1 (o : Own1 K cls F H a es) (h : a ≠ b) : Own1 K cls F (Fn.hide [b] H) a es := o.hid fun z => h (List.mem_singleton.mp z)
theorem Own1.out (o : Own1 K cls F H a es) : F a = none := by
  obtain ⟨ys, h1, h2, h3⟩ := o
  exact h2
theorem Own1.there (o : Own1 K cls F H a es) : ∃ o, H a = some o := by
  obtain ⟨ys, h1, h2, h3⟩ := o
  exact ⟨_, h1⟩
theorem Own1.get (o : Own1 K cls F H a es) : ∃ ys, H a = some (.lst ys) ∧ RepL K cls F ys es := by
  obtain ⟨ys, h1, h2, h3⟩ := o
  exact ⟨ys, h1, h3⟩
theorem Sim.move (S : Sim K cls B [] σ H F ρ) (s1 : Same F F') (s2 : Same F' H') : Sim K cls (H', F', []) [] σ H' F' ρ where
  tb := fun p hp => absurd hp List.not_mem_nil
  ft := fun p hp => absurd hp List.not_mem_nil
  b := Ext.refl s2
  len := S.len
  fro := fun i d hi h => by
    obtain ⟨v, h1, h2⟩ := S.fro i d hi h
    exact ⟨v, h1, h2.mono s1⟩
  ow := fun i d hi => absurd hi List.not_mem_nil
  sep := fun i j d e a hi => absurd hi List.not_mem_nil
theorem Sim.base (S : Sim K cls B [] σ H F ρ) : Sim K cls (H, F, []) [] σ H F ρ := S.move (Same.refl _) S.s
/-- a piece of a body that changes nothing of the caller's -/
theorem run_nx {W : WX} {fr : Bool} {ol own' : List Nat} {t : TS} {g : Rho → R} {Z : Ends} {ρ' : Rho} (h : FS K ⟨cls, xc, W, (H, F, []), fr⟩ ol [] own' t g) (S : Sim K cls B [] σ H F ρ) (e : g ρ = .nx ρ')
    (q : ∀ σ' H' F', Ext F H F' H' → Sim K cls (H', F', []) [] σ' H' F' ρ' → Z.nx σ' H') : t Z σ H := by
  refine h Z σ H F ρ S.base ?_
  rw [e]
  intro σ' H' F1 s S1
  obtain ⟨F2, s2, S2⟩ := S1.shrink (own' := []) fun i z => absurd z List.not_mem_nil
  exact q σ' H' F2 S2.b S2.base
/-- what a slot holds -/
theorem Sim.val (S : Sim K cls B [] σ H F ρ) {i : Nat} {d : PyData} (h : ρ[i]? = some (some d)) : ∃ v, σ[i]? = some (some v) ∧ Rep K cls F v d := S.fro i d List.not_mem_nil h
theorem Sim.adr (S : Sim K cls B [] σ H F ρ) {i : Nat} (h : ρ[i]? = some (some (D.ad a))) : σ[i]? = some (some (V.ref a)) := by
  obtain ⟨v, h1, h2⟩ := S.val h
  cases h2
  exact h1
/-! ### the list changes -/
theorem chg (s : Same F H) (o : Own1 K cls F H a es) {ys : List V} {ds : List PyData} (r : RepL K cls F ys ds) : Ext F (Fn.hide [a] H) F (L2.upd H a (.lst ys)) ∧ Own1 K cls F (L2.upd H a (.lst ys)) a ds := by
  refine ⟨(ext_hid0 (L := [a]) s fun x hx => ?_).updNew (hide_in List.mem_cons_self) o.out, ys, upd_same, o.out, r⟩
  rw [List.mem_singleton.mp hx]
  exact o.out
theorem app_rd {W : WX} {i : Nat} {te : TE} {g : Rho → O PyData} {Z : Ends} {d : PyData} (h : FE K ⟨cls, xc, W, (H, F, []), false⟩ [] true te g) (S : Sim K cls B [] σ H F ρ) (hi : ρ[i]? = some (some (D.ad a))) (o : Own1 K cls F H a es) (hl : es.length < lim) (e : g ρ = .ok d)
    (q : ∀ H' F', Ext F (Fn.hide [a] H) F' H' → Own1 K cls F' H' a (es ++ [d]) → Sim K cls (H', F', []) [] σ H' F' ρ → Z.nx σ H') : tDrop (tBM K "list" rAppend (tVar i) (tCons te tNil)) Z σ H := by
  obtain ⟨xs, k1, k2⟩ := o.get
  refine ⟨_, S.adr hi, .inl ⟨rfl, xs, SqL.of k1⟩, ?_⟩
  refine h σ H F ρ _ S.base ?_
  rw [e]
  intro v H1 F1 x r
  obtain ⟨ys, m1, m3⟩ := (o.ext x).get
  refine ⟨a, ys, v, rfl, rfl, m1, by rw [m3.length]; exact lt_lim hl, ?_⟩
  have c := chg x.s (o.ext x) (m3.append (.cons r .nil))
  refine q _ F1 ((x.unhide (L := [a]) fun y hy => ?_).hide (L' := [a]) (fun y hy => ?_) |>.trans c.1) c.2 (S.move x.f c.1.s)
  · rw [List.mem_singleton.mp hy]
    exact ⟨o.out, o.there⟩
  · rw [List.mem_singleton.mp hy]
    exact ⟨hide_in List.mem_cons_self, (o.ext x).out⟩
theorem clr_rd {i : Nat} {Z : Ends} (S : Sim K cls B [] σ H F ρ) (hi : ρ[i]? = some (some (D.ad a))) (o : Own1 K cls F H a es)
    (q : ∀ H', Ext F (Fn.hide [a] H) F H' → Own1 K cls F H' a [] → Sim K cls (H', F, []) [] σ H' F ρ → Z.nx σ H') : tDrop (tBM0 K "list" rClear (tVar i)) Z σ H := by
  obtain ⟨xs, k1, k2⟩ := o.get
  have c := chg S.s o (ys := []) .nil
  exact ⟨_, S.adr hi, .inl ⟨rfl, xs, SqL.of k1⟩, a, xs, rfl, rfl, k1, q _ c.1 c.2 (S.move (Same.refl _) c.1.s)⟩
theorem ext_rd {W : WX} {i : Nat} {te : TE} {g : Rho → O PyData} {Z : Ends} {ds : List PyData} (h : FE K ⟨cls, xc, W, (H, F, []), false⟩ [] true te g) (S : Sim K cls B [] σ H F ρ) (hi : ρ[i]? = some (some (D.ad a))) (o : Own1 K cls F H a es) (hl : es.length + ds.length ≤ lim) (e : g ρ = .ok (.list ds))
    (q : ∀ H' F', Ext F (Fn.hide [a] H) F' H' → Own1 K cls F' H' a (es ++ ds) → Sim K cls (H', F', []) [] σ H' F' ρ → Z.nx σ H') : tDrop (tBM K "list" rExtend (tVar i) (tCons te tNil)) Z σ H := by
  obtain ⟨xs, k1, k2⟩ := o.get
  refine ⟨_, S.adr hi, .inl ⟨rfl, xs, SqL.of k1⟩, ?_⟩
  refine h σ H F ρ _ S.base ?_
  rw [e]
  intro v H1 F1 x r
  obtain ⟨ys, m1, m3⟩ := (o.ext x).get
  cases r with
  | ls h2 r2 =>
    refine ⟨a, _, ys, _, rfl, rfl, m1, x.s _ _ h2, by rw [m3.length, r2.length]; exact le_lim hl, ?_⟩
    have c := chg x.s (o.ext x) (m3.append r2)
    refine q _ F1 ((x.unhide (L := [a]) fun y hy => ?_).hide (L' := [a]) (fun y hy => ?_) |>.trans c.1) c.2 (S.move x.f c.1.s)
    · rw [List.mem_singleton.mp hy]
      exact ⟨o.out, o.there⟩
    · rw [List.mem_singleton.mp hy]
      exact ⟨hide_in List.mem_cons_self, (o.ext x).out⟩
/-! ### the list stays as it is from here on -/
theorem Sim.frz {G : Hp} {i : Nat} (S : Sim K cls B [] σ H F ρ) (E : Ext F0 G F H) (hi : ρ[i]? = some (some (D.ad a))) (o : Own1 K cls F H a es) (hG : G a = none) :
    ∃ F', Same F F' ∧ Ext F0 G F' H ∧ Sim K cls (H, F', []) [] σ H F' (ρ.set i (some (.list es))) ∧ ∀ b, b ≠ a → F b = none → F' b = none := by
  obtain ⟨ys, h1, h2, h3⟩ := o
  have s1 : Same F (L2.upd F a (.lst ys)) := same_upd h2
  have s2 : Same (L2.upd F a (.lst ys)) H := fun b u q => by
    rcases upd_some q with ⟨rfl, rfl⟩ | ⟨n, q⟩
    · exact h1
    · exact S.s _ _ q
  have S1 := S.move s1 s2
  refine ⟨_, s1, E.keep hG h1, ⟨S1.b, by rw [List.length_set]; exact S1.len, fun j d hj q => ?_, fun j d hj => absurd hj List.not_mem_nil, fun j k d e b hj => absurd hj List.not_mem_nil, S1.tb, S1.ft⟩, fun b hb q => by rw [upd_ne hb]; exact q⟩
  by_cases e : i = j
  · subst e
    obtain ⟨z, _⟩ := get_set q
    cases z
    exact ⟨_, S.adr hi, .ls upd_same (h3.mono s1)⟩
  · rw [get_set_ne e] at q
    exact S1.fro j d hj q
/-! ### lists lent to a call -/
theorem spN_lent {W : XK} {f : List PyData → O PyData} {n : Nat} {vs : List V} {ds : List PyData} {Q : VK} (s : Same F H) (r : Paired (Rep1 K ⟨cls, xc, fun _ _ _ _ => False, (H, F, []), false⟩ F H) vs ds) (hn : ds.length = n) (hf : f ds = .ok (.list es)) (hno : noLs es = true)
    (q : ∀ p xs H' F', Ext F H F' H' → H' p = some (.lst xs) → F' p = none → H p = none → RepL K cls F' xs es → Q (.ref p) H') : spN K cls xc n f vs H Q W := by
  obtain ⟨L, hL, rL⟩ := lent s r
  refine ⟨over L H F, ds, over_in s L, rL, hn, ?_⟩
  rw [hf]
  refine ⟨_, rfl, fun p xs H2 F2 e2 h2 f2 hp r2 => q p xs H2 (less L F F2) (less_ext s e2) h2 ?_ hp (repL_but (less_but hL e2) r2 hno)⟩
  unfold less
  split
  · rfl
  · exact f2
theorem spF_lent {W : XK} {f : List PyData → O PyData} {n : Nat} {vs : List V} {ds : List PyData} {d : PyData} {Q : VK} (s : Same F H) (r : Paired (Rep1 K ⟨cls, xc, fun _ _ _ _ => False, (H, F, []), false⟩ F H) vs ds) (hn : ds.length = n) (hf : f ds = .ok d) (hno : noL d = true)
    (q : ∀ v H' F', Ext F H F' H' → Rep K cls F' v d → Q v H') : spF K cls xc n f vs H Q W := by
  obtain ⟨L, hL, rL⟩ := lent s r
  refine ⟨over L H F, ds, over_in s L, rL, hn, ?_⟩
  rw [hf]
  exact fun v H2 F2 e2 r2 => q v H2 (less L F F2) (less_ext s e2) (repL_but (less_but hL e2) (.cons r2 .nil) (by unfold noLs; rw [hno]; rfl) |> fun z => by cases z with | cons z _ => exact z)
theorem Own1.rep1 {c : Ct} (hc : c.cls = cls) (o : Own1 K cls F H a es) : Rep1 K c F H (.ref a) (.list es) := by
  subst hc
  obtain ⟨ys, h1, h3⟩ := o.get
  exact .inr ⟨a, ys, es, rfl, rfl, h1, h3⟩
theorem args2_rd {i j : Nat} {v u : V} {R : List V → Hp → Prop} (h0 : σ[i]? = some (some v)) (h1 : σ[j]? = some (some u)) (q : R [v, u] H) : tCons (tVar i) (tCons (tVar j) tNil) σ H R := ⟨v, h0, u, h1, q⟩
theorem args3_rd {i j k : Nat} {v u x : V} {R : List V → Hp → Prop} (h0 : σ[i]? = some (some v)) (h1 : σ[j]? = some (some u)) (h2 : σ[k]? = some (some x)) (q : R [v, u, x] H) : tCons (tVar i) (tCons (tVar j) (tCons (tVar k) tNil)) σ H R := ⟨v, h0, u, h1, x, h2, q⟩
theorem args4_rd {i j k l : Nat} {v u x y : V} {R : List V → Hp → Prop} (h0 : σ[i]? = some (some v)) (h1 : σ[j]? = some (some u)) (h2 : σ[k]? = some (some x)) (h3 : σ[l]? = some (some y)) (q : R [v, u, x, y] H) : tCons (tVar i) (tCons (tVar j) (tCons (tVar k) (tCons (tVar l) tNil))) σ H R := ⟨v, h0, u, h1, x, h2, y, h3, q⟩
theorem args7_rd {i0 i1 i2 i3 i4 i5 i6 : Nat} {v0 v1 v2 v3 v4 v5 v6 : V} {R : List V → Hp → Prop} (h0 : σ[i0]? = some (some v0)) (h1 : σ[i1]? = some (some v1)) (h2 : σ[i2]? = some (some v2)) (h3 : σ[i3]? = some (some v3)) (h4 : σ[i4]? = some (some v4)) (h5 : σ[i5]? = some (some v5)) (h6 : σ[i6]? = some (some v6)) (q : R [v0, v1, v2, v3, v4, v5, v6] H) :
    tCons (tVar i0) (tCons (tVar i1) (tCons (tVar i2) (tCons (tVar i3) (tCons (tVar i4) (tCons (tVar i5) (tCons (tVar i6) tNil)))))) σ H R := ⟨v0, h0, v1, h1, v2, h2, v3, h3, v4, h4, v5, h5, v6, h6, q⟩
theorem run_own {c : Ct} {own own' ol : List Nat} {t : TS} {g : Rho → R} {Z : Ends} {ρ' : Rho} (h : FS K c ol own own' t g) (S : Sim K c.cls c.B own σ H F ρ) (e : g ρ = .nx ρ') (q : ∀ σ' H' F', Same F F' → Sim K c.cls c.B own' σ' H' F' ρ' → Z.nx σ' H') : t Z σ H :=
  h Z σ H F ρ S (by rw [e]; exact q)
theorem Sim.rebase (S : Sim K cls B [] σ H F ρ) (e : Ext F0 H0 F H) : Sim K cls (H0, F0, []) [] σ H F ρ where
  tb := fun p hp => absurd hp List.not_mem_nil
  ft := fun p hp => absurd hp List.not_mem_nil
  b := e
  len := S.len
  fro := S.fro
  ow := fun i d hi => absurd hi List.not_mem_nil
  sep := fun i j d e a hi => absurd hi List.not_mem_nil
theorem op_rd {r : R2} {i j : Nat} {v u : V} {Q : VK} (h0 : σ[i]? = some (some v)) (h1 : σ[j]? = some (some u)) (q : r v u H Q) : tOp r (tVar i) (tVar j) σ H Q := ⟨v, h0, u, h1, q⟩
theorem call_rd {sp : Sp} {E : L2.St → XK} {t : TA} {Q : VK} (h : t σ H fun vs H1 => sp vs H1 Q (E σ)) : tCallS sp E t σ H Q := h
/-- if b and not call: .., where the call says True -/
theorem andcall_rd {i : Nat} {b : Bool} {tc : TE} {u : TS} {Z : Ends} (R : Hp → Prop) (k : σ[i]? = some (some (.bl b))) (h0 : b = false → R H) (h1 : b = true → ∀ Q : VK, (∀ H', R H' → Q (.bl true) H') → tc σ H Q) (hR : ∀ H', R H' → Z.nx σ H') :
    tIfS (tAnd (fun σ H Q => tVar i σ H fun x H' => ∃ k, TruV K x H' k ∧ Q k H') (tNot fun σ H Q => tc σ H fun x H' => ∃ k, TruV K x H' k ∧ Q k H')) u tNext Z σ H := by
  refine if_rd ⟨_, k, b, rfl, ?_⟩
  cases b with
  | false => exact ifF (ifF (next_rd (hR _ (h0 rfl))))
  | true => exact ifT (h1 rfl _ fun H' r => ⟨true, rfl, ifF (next_rd (hR _ r))⟩)
/-! ### a loop -/
theorem for_rd {W : WX} {wi : TI} {tg : TG} {tb : TS} {gi : Rho → O (List PyData)} {f : PyData → Rho → O Rho} {Z : Ends} {ds : List PyData} (S : Sim K cls B [] σ H F ρ) (hi : FI K ⟨cls, xc, W, (H, F, []), false⟩ [] wi gi) (hg : ∀ H F, FG K ⟨cls, xc, W, (H, F, []), false⟩ [] tg f) (q : gi ρ = .ok ds)
    (I : Nat → Hp → Hp → Rho → Prop) (h0 : ∀ H' F', Ext F H F' H' → I 0 H' F' ρ) (up : ∀ i H2 F2 ρ2 H3 F3, I i H2 F2 ρ2 → Ext F2 H2 F3 H3 → I i H3 F3 ρ2)
    (step : ∀ (i : Nat) (d : PyData) (H2 F2 : Hp) (ρ2 : Rho) (σ3 : L2.St) (ρ3 : Rho) (Nx : L2.St → Hp → Prop), ds[i]? = some d → Same F F2 → I i H2 F2 ρ2 → f d ρ2 = .ok ρ3 → Sim K cls (H2, F2, []) [] σ3 H2 F2 ρ3 →
      (∀ σ4 H4 F4 ρ4, Same F2 F4 → Sim K cls (H4, F4, []) [] σ4 H4 F4 ρ4 → I (i + 1) H4 F4 ρ4 → Nx σ4 H4) → tb { Z with nx := Nx, ct := Nx, bk := Z.nx } σ3 H2)
    (hf : ∀ (i : Nat) (d : PyData) (H2 F2 : Hp) (ρ2 : Rho), ds[i]? = some d → I i H2 F2 ρ2 → ∃ ρ3, f d ρ2 = .ok ρ3)
    (fin : ∀ σ2 H2 F2 ρ2, Same F F2 → Sim K cls (H2, F2, []) [] σ2 H2 F2 ρ2 → I ds.length H2 F2 ρ2 → Z.nx σ2 H2) : tFor wi tg tb Z σ H := by
  refine hi σ H F ρ _ S.base ?_
  rw [q]
  intro J H1 F1 e it
  refine ⟨fun i m σ2 H2 => m = ds.length - i ∧ i ≤ ds.length ∧ ∃ F2 ρ2, Same F1 F2 ∧ Sim K cls (H2, F2, []) [] σ2 H2 F2 ρ2 ∧ I i H2 F2 ρ2, ⟨ds.length, by omega, Nat.zero_le _, F1, ρ, Same.refl _, S.move e.f e.s, h0 _ _ e⟩, ?_⟩
  rintro i m σ2 H2 ⟨rfl, hle, F2, ρ2, s2, S2, i2⟩
  obtain ⟨j1, j2, j3⟩ := it F2 H2 s2 S2.s i
  by_cases hlt : i < ds.length
  · refine .inr ⟨j1 hlt, fun σ3 H3 => ∃ F3 ρ3, Same F1 F3 ∧ Sim K cls (H3, F3, []) [] σ3 H3 F3 ρ3 ∧ I (i + 1) H3 F3 ρ3, fun σ3 H3 z => ⟨ds.length - (i + 1), by omega, rfl, hlt, z⟩, fun x H3 y => ?_⟩
    have hd := List.getElem?_eq_getElem hlt
    obtain ⟨F3, e3, r3⟩ := j3 x H3 ds[i] hd y
    have i3 := up _ _ _ _ _ _ i2 e3
    obtain ⟨ρ3, h3⟩ := hf i ds[i] _ _ _ hd i3
    refine hg H3 F3 x ds[i] σ2 H3 F3 ρ2 _ (S2.move e3.f e3.s) r3 ?_
    rw [h3]
    exact fun σ3 S3 => step i ds[i] H3 F3 ρ2 σ3 ρ3 _ hd (e.f.trans (s2.trans e3.f)) i3 h3 S3 fun σ4 H4 F4 ρ4 s4 S4 i4 => ⟨F4, ρ4, s2.trans (e3.f.trans s4), S4, i4⟩
  · have : i = ds.length := by omega
    subst this
    exact .inl ⟨j2 rfl, fin σ2 H2 F2 ρ2 (e.f.trans s2) S2 i2⟩
end
end Fn

set_option Elab.async false
set_option linter.all false
set_option maxRecDepth 100000
/-! Methods that make a lambda; a walk over what such an expression tells; new lists made in a row; views of what will change. -/
namespace Fn
open PySem PySem.Spec L2
/-! ### code objects -/
structure LamAt (base : Heap) (mg : Str → Option Value) (T : List (Addr × Str)) (c P : Addr) (q : Str) : Prop where
  tb : LamX.TabB base mg c P
  mem : (P, q) ∈ T
  uni : ∀ p ∈ T, p.1 = P → p.2 = q
/-- a method whose code object stands at c -/
def MethC (K : PySem.W.Frag) (C : Addr) (x qual : Str) (st : Stmt) (ps : List Str) (c : Addr) : Prop :=
  ∃ f oc od kV doc pm an ct osl, K.lookup f = some ⟨oc, od, .func (PySem.W.fnOf x qual (defArgs st) (defBody st) (defScope st) .none kV doc pm an (.ref c) ct), osl⟩ ∧ PySem.W.codeIn K (.ref c) qual = true ∧ Meth K C x f ∧ Binds K (PySem.W.fnOf x qual (defArgs st) (defBody st) (defScope st) .none kV doc pm an (.ref c) ct) ps []
section
variable {P : Program} {w : World} {K : PySem.W.Frag} {mg : Str → Option Value} {base : Heap} {cls xc : Nat → Addr} {C : Addr} {x qual : Str} {st : Stmt} {ps N : List Str} {k : Nat}
theorem okMTC_of {T : List (Addr × Str)} {c : Addr} (d : MethC K C x qual st ps c) (S : FnScope N ps (defScope st)) (g : Rho → R) (own' : List Nat)
    (h : ∀ (f : Addr) (A : Around) (outer : List Env) (s : Shared) (H : Hp) (E : XK) (F0 : Hp), noTab F0 → Room k (A.deeper (PyProof.Rows.envOfC qual (defScope st) s.heap.objs.size f (.ref c))) →
      ∃ t, PSs (cxOf (L2.CX P w) P w K mg base N qual (defScope st) f (.ref c) A outer s H E) (defBody st) t ∧ FS K ⟨cls, xc, fun cl d _ H' => E cl d H', (hideT H, F0, T), false⟩ [] [] own' t g) :
    OkM P w K mg base C x ps (k + 1) (spT K cls T ps.length (fun ds => noEx (fnG N.length g ds))) := by
  obtain ⟨f, oc, od, kV, doc, pm, an, ct, osl, lk, hcd, m, b⟩ := d
  refine ⟨f, _, fn_of lk hcd S (fun vs H Q E h => ?_) (fun A outer s H vs Q E hr hsp => ?_), m, b⟩
  · obtain ⟨_, F0, ds, _, _, r, hn, _⟩ := h
    rw [r.length]; exact hn
  · obtain ⟨tb, F0, ds, sF, hf0, r, hn, q⟩ := hsp
    obtain ⟨t, ht, hf⟩ := h f A outer s H E F0 hf0 hr
    refine ⟨t, ht, hf _ _ H F0 (rho0 N.length ds) (sim_startT tb sF hf0 r) ?_⟩
    have q : OPost (fun d => ∀ v H' F', Ext F0 (hideT H) F' H' → TF T H' F' → Rep K cls F' v d → Q v H') (fun _ => False) (noEx (outR (g (rho0 N.length ds)))) := q
    cases e : g (rho0 N.length ds) with
    | nx ρ' =>
      rw [e] at q
      exact fun σ' H' F' s' S' => q .non H' F' S'.b ⟨S'.tb, S'.ft⟩ .non
    | rt d => rw [e] at q; exact q
    | ex n => rw [e] at q; exact q.elim
    | bk ρ' => rw [e] at q; exact q.elim
    | ct ρ' => rw [e] at q; exact q.elim
    | bad => rw [e] at q; exact q.elim
end
/-! ### a walk over what a lambda has sorted -/
section
variable {K : PySem.W.Frag} {c : Ct} {ol own own' : List Nat} {te : TE} {ge : Rho → O PyData} {tg : TG} {tb : TS} {f : PyData → Rho → O Rho} {body : Rho → R}
theorem fe_cv {c : Ct} {own : List Nat} {b : Bool} {v : V} {d : PyData} (r : Rep K c.cls c.B.2.1 v d) : FE K c own b (tC v) (gC d) := FE.any fun σ H F ρ Q S q => q v H F (Ext.refl S.s) (r.mono S.b.f)
theorem Sim.reT {B : Hp × Hp × List (Addr × Str)} {σ : L2.St} {H F : Hp} {ρ : Rho} {cls : Nat → Addr} (S : Sim K cls B [] σ H F ρ) : Sim K cls (H, F, B.2.2) [] σ H F ρ where
  tb := S.tb
  ft := S.ft
  b := Ext.refl S.s
  len := S.len
  fro := S.fro
  ow := fun i d hi => absurd hi List.not_mem_nil
  sep := fun i j d e a hi => absurd hi List.not_mem_nil
theorem Sim.unT {B : Hp × Hp × List (Addr × Str)} {σ : L2.St} {H F H' F' : Hp} {ρ : Rho} {cls : Nat → Addr} (S : Sim K cls (H, F, B.2.2) [] σ H' F' ρ) (e : Ext B.2.1 B.1 F H) : Sim K cls B [] σ H' F' ρ where
  tb := S.tb
  ft := S.ft
  b := e.trans S.b
  len := S.len
  fro := S.fro
  ow := fun i d hi => absurd hi List.not_mem_nil
  sep := fun i j d e a hi => absurd hi List.not_mem_nil
theorem SPost.unT {H F F2 : Hp} {D : Ends} {r : R} (e : Ext c.B.2.1 c.B.1 F H) (hf : c.fr = false) (h : SPost K c [] [] F2 D r) : SPost K { c with B := (H, F, c.B.2.2) } [] [] F2 D r := by
  cases r with
  | nx ρ => exact fun σ' H' F' s S => h σ' H' F' s (S.unT e)
  | rt d =>
    have h : RetP K c c.B.2.1 c.B.1 c.B.2.2 c.fr D.rt d := h
    show RetP K c F H c.B.2.2 c.fr D.rt d
    rw [hf] at h ⊢
    exact fun v H' F' e' t r => h v H' F' (e.trans e') t r
  | bk ρ => exact fun σ' H' F' s S => h σ' H' F' s (S.unT e)
  | ct ρ => exact fun σ' H' F' s S => h σ' H' F' s (S.unT e)
  | ex n => exact fun σ' H' s => h σ' H' (e.h.trans s)
  | bad => exact h
def gForX (f : PyData → Rho → O Rho) (ge : Rho → O PyData) (body : Rho → R) : Rho → R := fun ρ => (ge ρ).go fun d => gFor f (gItL (gC d)) body ρ
theorem fx_for (h : FX K c [] te ge) (hf : c.fr = false) (hg : ∀ B, FG K { c with B := B } [] tg f) (hb : ∀ B, FS K { c with B := B } [] [] [] tb body) (hx : ∀ d ρ k, f d ρ ≠ .ex k) : FS K c [] [] [] (tFor (iList K te) tg tb) (gForX f ge body) := fun D σ H F ρ S q => by
  refine h σ H F ρ _ S (SPost.go q (fun d q v H1 F1 s S1 r => ?_) fun n q H1 s => q σ H1 s)
  exact fs_for (c := { c with B := (H1, F1, c.B.2.2) }) (fi_list (t := tC v) (fe_cv (c := { c with B := (H1, F1, c.B.2.2) }) (own := []) r)) (hg _) hx (hb _) D σ H1 F1 ρ S1.reT (SPost.unT S1.b hf (SPost.mono q s))
end
/-! ### fields by which a lambda orders -/
def keyOf (ks : List PyData) : PyData → Option Int
  | .int n => match atI ks n with
    | some (.int z) => some z
    | _ => none
  | _ => none
def keyI (ks : List PyData) (d : PyData) : Int := (keyOf ks d).getD 0
def minD (es ks : List PyData) : O PyData := if es.all (fun d => (keyOf ks d).isSome) = true then (if es = [] then .ok .none else match es.filter (fun d => es.all fun e => decide (keyI ks d ≤ keyI ks e)) with
  | [m] => .ok m
  | _ => .bad) else .bad
def listO' : PyData → O (List PyData)
  | .list ds => .ok ds
  | _ => .bad
def gMinF (i j : Nat) (f : Str) (k : Nat) : Rho → O PyData := fun ρ => (lsAt i ρ).bind fun es => (gFld f k (gVar j) ρ).bind fun d => (listO' d).bind fun ks => minD es ks
def sortD (n : Nat) (ks : List PyData) : O PyData := if ((List.range n).all fun i => (keyOf ks (.int (i : Nat))).isSome) = true ∧ n ≤ 1000 then .ok (.list ((((List.range n).map fun (i : Nat) => (i : Int)).mergeSort fun a b => decide (keyI ks (.int a) ≤ keyI ks (.int b))).map PyData.int)) else .bad
def gSortF (g : Rho → O PyData) (j : Nat) (f : Str) (k : Nat) : Rho → O PyData := fun ρ => (g ρ).bind fun m => (gFld f k (gVar j) ρ).bind fun d => (listO' d).bind fun ks => match m with
  | .int n => if 0 ≤ n then sortD n.toNat ks else .bad
  | _ => .bad
section
variable {K : PySem.W.Frag} {c : Ct} {ol own own' : List Nat}
theorem keyOf_int {ks : List PyData} {d : PyData} (h : (keyOf ks d).isSome = true) : ∃ n z, d = .int n ∧ atI ks n = some (.int z) ∧ keyI ks d = z := by
  unfold keyI
  unfold keyOf at h ⊢
  split at h
  · rename_i n
    split at h
    · rename_i z e
      exact ⟨n, z, rfl, e, rfl⟩
    · cases h
  · cases h
/-- the field of an instance that stands -/
theorem fld_at {F : Hp} {f : Str} {k j : Nat} {σ : L2.St} {ρ : Rho} {H : Hp} {B : Hp × Hp × List (Addr × Str)} {d : PyData} (S : Sim K c.cls B own σ H F ρ) (hj : own.contains j = false) (h : gFld f k (gVar j) ρ = .ok d) :
    ∃ x dx fs v, σ[j]? = some (some (V.ref x)) ∧ F x = some (.ins (c.cls k) dx fs) ∧ fs.lookup f = some v ∧ Rep K c.cls F v d := by
  unfold gFld at h
  obtain ⟨e, h1, h⟩ := O.bind_okI h
  have hρ : ρ[j]? = some (some e) := by
    unfold gVar at h1
    split at h1
    · rename_i d' hd
      cases h1
      exact hd
    · cases h1
  obtain ⟨v, hv, r⟩ := S.fro j e (fun z => by rw [List.contains_iff_mem.mpr z] at hj; cases hj) hρ
  split at h
  · rename_i j' gs
    split at h
    · rename_i hjk
      subst hjk
      split at h
      · rename_i e2 hf
        cases h
        obtain ⟨a, dx, fs, rfl, ha, rf⟩ := Rep1.obj (c := c) (H := F) (.inl r) (Same.refl _)
        obtain ⟨w, h2, r2⟩ := rf.lookup hf
        exact ⟨_, _, _, w, hv, ha, h2, r2⟩
      · cases h
    · cases h
  · cases h
theorem minD_ok {es ks : List PyData} {z : PyData} (h : minD es ks = .ok z) : (∀ d ∈ es, (keyOf ks d).isSome = true) ∧ ((es = [] ∧ z = .none) ∨ (es ≠ [] ∧ ∀ m ∈ es, (∀ e ∈ es, keyI ks m ≤ keyI ks e) → m = z)) := by
  unfold minD at h
  split at h
  · rename_i ha
    refine ⟨fun d hd => List.all_eq_true.mp ha d hd, ?_⟩
    split at h
    · rename_i he
      cases h
      exact .inl ⟨he, rfl⟩
    · rename_i he
      refine .inr ⟨he, ?_⟩
      split at h
      · rename_i m hm
        cases h
        intro m' h1 h2
        have : m' ∈ es.filter (fun d => es.all fun e => decide (keyI ks d ≤ keyI ks e)) := List.mem_filter.mpr ⟨h1, List.all_eq_true.mpr fun e he => decide_eq_true (h2 e he)⟩
        rw [hm] at this
        exact List.mem_singleton.mp this
      · cases h
  · cases h
theorem minD_ex {es ks : List PyData} {n : Nat} (h : minD es ks = .ex n) : False := by
  unfold minD at h
  split at h
  · split at h
    · cases h
    · split at h <;> cases h
  · cases h
theorem reads_ints {F : Hp} : ∀ {xs : List V} {es : List PyData}, RepL K c.cls F xs es → (∀ d ∈ es, ∃ n, d = .int n) → ∃ ns : List Int, xs = ns.map V.int ∧ es = ns.map PyData.int
  | _, _, .nil, _ => ⟨[], rfl, rfl⟩
  | _, _, .cons r t, h => by
    obtain ⟨n, rfl⟩ := h _ List.mem_cons_self
    cases r
    obtain ⟨ns, rfl, rfl⟩ := reads_ints t fun d hd => h d (List.mem_cons_of_mem _ hd)
    exact ⟨n :: ns, rfl, rfl⟩
theorem lsl_of {d : PyData} {ks : List PyData} (h : listO' d = .ok ks) : d = .list ks := by
  unfold listO' at h
  split at h
  · cases h; rfl
  · cases h
theorem gFld_ex {f : Str} {k j n : Nat} {ρ : Rho} (h : gFld f k (gVar j) ρ = .ex n) : False := by
  unfold gFld at h
  cases e : gVar j ρ with
  | ex n => unfold gVar at e; split at e <;> cases e
  | bad => rw [e] at h; cases h
  | ok d =>
    rw [e, O.bind_ok] at h
    split at h
    · split at h
      · split at h <;> cases h
      · cases h
    · cases h
theorem listO'_ex {d : PyData} {n : Nat} (h : listO' d = .ex n) : False := by
  unfold listO' at h
  split at h <;> cases h
/-- all but the tables, after a lambda has been made -/
theorem Sim.lam {σ : L2.St} {H F H2 : Hp} {ρ : Rho} (S : Sim K c.cls c.B own σ H F ρ) (hB : noTab c.B.1) (hF : noTab c.B.2.1) (eN : LamX.ExtN H H2) (t2 : LamX.Tabs c.B.2.2 H2) : Sim K c.cls c.B own σ H2 F ρ :=
  S.callT hB ⟨Same.refl _, ExtN.same eN, fun b o e => eN b o (S.s _ _ e) fun ps z => by
    subst z
    exact hF b ps (S.b.t b ps e), fun b o e => .inl e, fun _ _ e => e⟩ ⟨t2, S.ft⟩
/-- the body of the lambda -/
theorem key_rd {j k kk : Nat} {f : Str} {σ : L2.St} {G F : Hp} {x : Addr} {dx : Addr} {fs : List (Str × V)} {v : V} {ks : List PyData} {n z : Int} (cl : Cls K (c.cls k)) (na : NoAttr K (c.cls k) f) (hl : σ.length = kk) (hx : σ[j]? = some (some (V.ref x))) (hF : G x = some (.ins (c.cls k) dx fs)) (hlk : fs.lookup f = some v)
    (rv : Rep K c.cls F v (.list ks)) (nz : ∀ {b o}, F b = some o → G b = some o) (e2 : atI ks n = some (.int z)) : tOp (rIx K) (tFld K (tVar j) f) (tVar kk) (σ ++ [some (.int n)]) G fun y H' => y = .int z ∧ H' = G := by
  have hj : j < σ.length := by
    apply Classical.byContradiction
    intro h
    rw [List.getElem?_eq_none (by omega)] at hx
    cases hx
  obtain ⟨p, ws, rfl, hp, rl⟩ := Rep1.lst (c := c) (H := F) (.inl rv) (Same.refl _)
  obtain ⟨w, h1, h2⟩ := atI_rep rl e2
  cases h2
  exact ⟨.ref x, by rw [List.getElem?_append_left hj]; exact hx, x, _, dx, fs, .ref p, rfl, hF, cl, na, hlk, .int n, by rw [List.getElem?_append_right (by omega), hl, Nat.sub_self]; rfl, .inl ⟨p, ws, n, .int z, rfl, rfl, SqL.of (nz hp), h1, rfl, rfl⟩⟩
def gMinK (i j : Nat) (f : Str) (k kk : Nat) : Rho → O PyData := fun ρ => if ρ.length = kk then gMinF i j f k ρ else .bad
/-- min(xs, key=lambda p: self.f[p], default=None), xs a list of its own -/
theorem fx_minF {i j k kk : Nat} {f : Str} (cl : Cls K (c.cls k)) (na : NoAttr K (c.cls k) f) (hB : noTab c.B.1) (hF : noTab c.B.2.1) (hi : own.contains i = true) (hj : own.contains j = false) :
    FX K c own (LamY.tMinK c.B.2.2 (tCons (tVar i) tNil) (tOp (rIx K) (tFld K (tVar j) f) (tVar kk))) (gMinK i j f k kk) := fun σ H F ρ Q S q => by
  unfold gMinK at q
  split at q
  · rename_i hl
    have hl : σ.length = kk := by rw [S.len]; exact hl
    unfold gMinF at q
    cases h1 : lsAt i ρ with
    | ex n => exact (lsAt_ex h1).elim
    | bad => rw [h1] at q; exact q.elim
    | ok es =>
    rw [h1, O.bind_ok] at q
    obtain ⟨a, xs, ds', e0, k2, k3, k4, k5, k6⟩ := S.ow i _ (List.contains_iff_mem.mp hi) (lsAt_ok h1)
    cases e0
    cases h2 : gFld f k (gVar j) ρ with
    | ex n => exact (gFld_ex h2).elim
    | bad => rw [h2] at q; exact q.elim
    | ok d =>
    rw [h2, O.bind_ok] at q
    cases h3 : listO' d with
    | ex n => exact (listO'_ex h3).elim
    | bad => rw [h3] at q; exact q.elim
    | ok ks =>
    rw [h3, O.bind_ok] at q
    have := lsl_of h3
    subst this
    obtain ⟨x, dx, fs, v, hx, hFx, hlk, rv⟩ := fld_at S hj h2
    cases h4 : minD es ks with
    | ex n => exact (minD_ex h4).elim
    | bad => rw [h4] at q; exact q.elim
    | ok z =>
    rw [h4] at q
    have q : ∀ v H' F', Same F F' → Sim K c.cls c.B own σ H' F' ρ → Rep K c.cls F' v z → Q v H' := q
    obtain ⟨m1, m2⟩ := minD_ok h4
    obtain ⟨ns, rfl, rfl⟩ := reads_ints k4 fun d hd => by
      obtain ⟨n, _, e, _⟩ := keyOf_int (m1 d hd)
      exact ⟨n, e⟩
    refine ⟨_, k2, a, ns, fun n => keyI ks (.int n), rfl, k3, S.tb, fun H2 eN t2 => ?_⟩
    have S2 := S.lam hB hF eN t2
    have nz : ∀ {b o}, F b = some o → LamY.dropH H2 a b = some o := fun {b o} e => by
      rw [LamY.dropH_ne (fun z => by rw [z, k5] at e; cases e)]
      exact S2.s _ _ e
    refine ⟨fun n hn => ?_, fun hn => ?_, fun m hm hle => ?_⟩
    · obtain ⟨n', z', e1, e2, e3⟩ := keyOf_int (m1 (.int n) (List.mem_map.mpr ⟨n, hn, rfl⟩))
      cases e1
      dsimp only
      rw [e3]
      exact key_rd cl na hl hx (nz hFx) hlk rv nz e2
    · rcases m2 with ⟨_, e⟩ | ⟨e, _⟩
      · subst e
        exact q .non H2 F (Same.refl _) S2 .non
      · subst hn
        exact absurd rfl e
    · rcases m2 with ⟨e, _⟩ | ⟨_, e⟩
      · have : ns = [] := by simpa using e
        subst this
        cases hm
      · have := e (.int m) (List.mem_map.mpr ⟨m, hm, rfl⟩) fun d hd => by
          obtain ⟨n, hn, rfl⟩ := List.mem_map.mp hd
          exact hle n hn
        subst this
        exact q (.int m) H2 F (Same.refl _) S2 (.int m)
  · exact q.elim
theorem sortD_ok {n : Nat} {ks : List PyData} {z : PyData} (h : sortD n ks = .ok z) : (∀ i, i < n → (keyOf ks (.int (i : Nat))).isSome = true) ∧ n ≤ 1000 ∧ z = .list ((((List.range n).map fun (i : Nat) => (i : Int)).mergeSort fun a b => decide (keyI ks (.int a) ≤ keyI ks (.int b))).map PyData.int) := by
  unfold sortD at h
  split at h
  · rename_i q
    cases h
    exact ⟨fun i hi => List.all_eq_true.mp q.1 i (List.mem_range.mpr hi), q.2, rfl⟩
  · cases h
theorem sortD_ex {n m : Nat} {ks : List PyData} (h : sortD n ks = .ex m) : False := by
  unfold sortD at h
  split at h <;> cases h
def gSortK (g : Rho → O PyData) (j : Nat) (f : Str) (k kk : Nat) : Rho → O PyData := fun ρ => if ρ.length = kk then gSortF g j f k ρ else .bad
/-- sorted(range(e), key=lambda p: self.f[p]) -/
theorem fx_sortF {te : TE} {g : Rho → O PyData} {j k kk : Nat} {f : Str} (cl : Cls K (c.cls k)) (na : NoAttr K (c.cls k) f) (hB : noTab c.B.1) (hF : noTab c.B.2.1) (h : FE K c own false te g) (hj : own.contains j = false) :
    FX K c own (LamY.tSortK c.B.2.2 te (tOp (rIx K) (tFld K (tVar j) f) (tVar kk))) (gSortK g j f k kk) := fun σ H F ρ Q S q => by
  unfold gSortK at q
  split at q
  · rename_i hl
    have hl : σ.length = kk := by rw [S.len]; exact hl
    unfold gSortF at q
    refine h σ H F ρ _ S (OPost.imp (fun m q v H1 F1 e1 r1 => ?_) (fun n q H1 s => q H1 (S.b.h.trans s)) (OPost.bind q))
    have S1 := S.ext e1
    cases h2 : gFld f k (gVar j) ρ with
    | ex n => exact (gFld_ex h2).elim
    | bad => rw [h2] at q; exact q.elim
    | ok d =>
    rw [h2, O.bind_ok] at q
    cases h3 : listO' d with
    | ex n => exact (listO'_ex h3).elim
    | bad => rw [h3] at q; exact q.elim
    | ok ks =>
    rw [h3, O.bind_ok] at q
    have := lsl_of h3
    subst this
    obtain ⟨x, dx, fs, v, hx, hFx, hlk, rv⟩ := fld_at S1 hj h2
    split at q
    · rename_i n
      split at q
      · rename_i hn
        have r1 : Rep1 K c F1 H1 _ (.int n) := r1
        cases h4 : sortD n.toNat ks with
        | ex n => exact (sortD_ex h4).elim
        | bad => rw [h4] at q; exact q.elim
        | ok z =>
        rw [h4] at q
        have q : ∀ v H' F', Same F F' → Sim K c.cls c.B own σ H' F' ρ → Rep K c.cls F' v z → Q v H' := q
        obtain ⟨m1, m2, rfl⟩ := sortD_ok h4
        refine ⟨n.toNat, fun n => keyI ks (.int n), by rw [r1.int]; congr 1; omega, m2, S1.tb, fun H2 eN t2 => ?_⟩
        have S2 := S1.lam hB hF eN t2
        refine ⟨fun i hi => ?_, fun p hp => ?_⟩
        · obtain ⟨n', z', e1, e2, e3⟩ := keyOf_int (m1 i hi)
          cases e1
          dsimp only
          rw [e3]
          exact key_rd cl na hl hx (S2.s _ _ hFx) hlk rv (fun {b o} e => S2.s _ _ e) e2
        · have e := Ext.new (o := .lst ((((List.range n.toNat).map fun (i : Nat) => (i : Int)).mergeSort fun a b => decide (keyI ks (.int a) ≤ keyI ks (.int b))).map V.int)) S2.s hp
          exact q _ _ _ (e1.f.trans e.f) (S2.ext e) (.ls upd_same (RepL.ints _))
      · exact q.elim
    · exact q.elim
  · exact q.elim
theorem fx_retK {t : TE} {g : Rho → O PyData} (h : FX K c own t g) (hf : c.fr = false := by rfl) : FS K c ol own own' (tRet t) (gRet g) := fun D σ H F ρ S q => by
  refine h σ H F ρ _ S (SPost.go q (fun d q v H1 F1 s1 S1 r => ?_) fun n q H1 s => q σ H1 s)
  have q : RetP K c c.B.2.1 c.B.1 c.B.2.2 c.fr D.rt d := q
  rw [hf] at q
  exact q v H1 F1 S1.b ⟨S1.tb, S1.ft⟩ r
def gPar (i j : Nat) (g : Rho → O (List PyData)) : Rho → R := fun ρ => (g ρ).go fun ds => match ds with
  | [d, e] => .nx ((ρ.set i (some d)).set j (some e))
  | _ => .bad
theorem fs_par {t : TA} {g : Rho → O (List PyData)} {i j : Nat} (h : FA K c own true t g) (hi : own.contains i = false) (hj : own.contains j = false) : FS K c ol own own (tPar i j t) (gPar i j g) := fun D σ H F ρ S q => by
  refine h σ H F ρ _ S (SPost.go q (fun ds q vs H1 F1 e r => ?_) fun n q H1 s => q σ H1 (S.b.h.trans s))
  split at q
  · rename_i d e'
    have r : RepL K c.cls F1 vs [d, e'] := r
    cases r with
    | cons r1 r => cases r with
      | cons r2 r => cases r with
        | nil =>
          refine ⟨_, _, rfl, ?_⟩
          have z := ((S.ext e).set i r1).set j r2
          rw [notIn_of hi, notIn_of hj] at z
          exact q _ H1 F1 e.f z
  · exact q.elim
end
end Fn

set_option Elab.async false
set_option linter.all false
set_option maxRecDepth 100000
namespace K11
open PySem PySem.Spec L2 Fn
abbrev st_missed : Stmt := inClass (topS 27) 1
theorem sc_missed : FnScope ["self", "rows", "row"] ["self"] (defScope st_missed) := ⟨rfl, rfl, rfl, by decide +kernel, rfl, by decide +kernel, by decide +kernel⟩
def g_missed : Rho → R :=
    (gSeq (gSet 1 (gComp [2] (aName 2) (gBl (gLt (gIx (gIx (gFld "table" 1 (gVar 0)) (gVar 2)) (gNeg (gC (.int 1)))) (gC (.int 0)))) (gVar 2) (gRng1 (gConsA (gB bLen (gConsA (gFld "others" 1 (gVar 0)) gNilA)) gNilA))))
    (gRet (gMinK 1 0 "others" 1 3)))
def f_missed : List PyData → O PyData := fun ds => noEx (fnG 3 g_missed ds)
section
variable {P : Program} {w : World} {K : PySem.W.Frag} {mg : Str → Option Value} {base : Heap} {cls xc : Nat → Addr} {Tt : List (Addr × Str)} {c Pt : Addr}
theorem okm_missed (T : Top K mg xc cls) (M : MethC K (cls 1) "missed_row" "Corner.missed_row" st_missed ["self"] c) (L : LamAt base mg Tt c Pt "Corner.missed_row.<locals>.<lambda>") : OkM P w K mg base (cls 1) "missed_row" ["self"] 4 (spT K cls Tt 1 f_missed) :=
  okMTC_of (xc := xc) M sc_missed g_missed [1] fun f A outer s H E F0 hF hr => ⟨_, (pss_cons (ps_setLc (i := 1) (own := [("row", 2)]) rfl sc_missed.nd rfl rfl (sw_true rfl rfl rfl (by decide +kernel)) (pi_range1 (by rfl) T.n_range (pa_cons (pe_callB call_len (by rfl) T.n_len bt_len (pa_cons (pe_fld (pv 0) rfl) pa_nil)) pa_nil)) (blkOk_by (N := ["self", "rows", "row"]) (sc := defScope st_missed) (own := [("row", 2)]) (by decide +kernel)) (fun _ _ _ _ _ => (pg_name (i := 2) sc_missed.nd rfl (by first | exact Or.inl rfl | exact Or.inr rfl))) (fun _ _ _ _ _ => (pts_one (pt_cmpR op_lt (pe_ix ix_seq (pe_ix ix_seq (pe_fld (pv 0) rfl) (pv 2) (fun _ _ => rfl)) (pe_un un_neg pe_int) (fun _ _ => rfl)) pe_int (nomark _)))) (fun _ _ _ _ _ => (pv 2)))
      (pss_one (ps_ret (LamY.pe_minKey (T := Tt) (c := c) (P := Pt) (a := "place") (k := 1) rfl (by rfl) T.n_min (pa_cons (pv 1) pa_nil) L.tb rfl L.mem L.uni (hr.mono (by decide)) (LamY.lamS1_by (by show LamY.lamS1B (defScope st_missed) _ _ = true; decide +kernel)) (by show ¬ _ ∈ [("self" : Str), "rows", "row"]; decide +kernel) rfl (fun _ _ _ _ _ _ => rfl) (fun A outer s H f c' hr => pe_ix ix_seq (pe_fld (pv 0) rfl) (pv 3) (fun _ _ => rfl)))))),
    (fs_seq (own1 := [1]) (fs_setO (own' := [1]) (fo_comp (vs := [2]) (fi_range1 (fa_cons (fe_callB cf_len (fa_cons (fe_fld T.cl1 T.na_others (fe_var rfl)) fa_nil)) fa_nil)) (fc_name rfl rfl) aName_ex (ft_test (fe_op opf_lt (fe_op opf_ix (fe_op opf_ix (fe_fld T.cl1 T.na_table (fe_var rfl)) (fe_var rfl)) (fe_un unf_neg (fe_int 1))) (fe_int 0))) (fe_var rfl)) gComp_list rfl)
      (fx_retK (fx_minF T.cl1 T.na_others hide_base hF rfl rfl)))⟩
end
end K11

set_option Elab.async false
set_option linter.all false
set_option maxRecDepth 100000
namespace K11
open PySem PySem.Spec L2 Fn
abbrev st_column : Stmt := inClass (topS 27) 2
theorem sc_column : FnScope ["self", "row", "line", "gains", "found", "column"] ["self", "row"] (defScope st_column) := ⟨rfl, rfl, rfl, by decide +kernel, rfl, by decide +kernel, by decide +kernel⟩
def b_column : Rho → R := (gIfS (gAndT (gBl (gLt (gIx (gVar 2) (gVar 5)) (gC (.int 0)))) (gOrT (gBl (gIsN (gVar 4) (gC .none))) (gBl (gGt (gMul (gIx (gVar 3) (gVar 5)) (gIx (gVar 2) (gVar 4))) (gMul (gIx (gVar 3) (gVar 4)) (gIx (gVar 2) (gVar 5))))))) (gSet 4 (gVar 5)) gNext)
def g_column : Rho → R :=
    (gSeq (gPar 2 3 (gConsA (gIx (gFld "table" 1 (gVar 0)) (gVar 1)) (gConsA (gIx (gFld "table" 1 (gVar 0)) (gNeg (gC (.int 1)))) gNilA)))
    (gSeq (gSet 4 (gC .none))
    (gSeq (gForX (aName 5) (gSortK (gB bLen (gConsA (gFld "tight" 1 (gVar 0)) gNilA)) 0 "tight" 1 6) b_column)
    (gRet (gVar 4)))))
def f_column : List PyData → O PyData := fun ds => noEx (fnG 6 g_column ds)
section
variable {P : Program} {w : World} {K : PySem.W.Frag} {mg : Str → Option Value} {base : Heap} {cls xc : Nat → Addr} {Tt : List (Addr × Str)} {c Pt : Addr}
theorem okm_column (T : Top K mg xc cls) (M : MethC K (cls 1) "column_for" "Corner.column_for" st_column ["self", "row"] c) (L : LamAt base mg Tt c Pt "Corner.column_for.<locals>.<lambda>") : OkM P w K mg base (cls 1) "column_for" ["self", "row"] 5 (spT K cls Tt 2 f_column) :=
  okMTC_of (xc := xc) M sc_column g_column [] fun f A outer s H E F0 hF hr => ⟨_, (pss_cons (ps_par (i := 2) (j := 3) rfl sc_column.nd rfl rfl (by decide) rfl rfl (pa_cons (pe_ix ix_seq (pe_fld (pv 0) rfl) (pv 1) (fun _ _ => rfl)) (pa_cons (pe_ix ix_seq (pe_fld (pv 0) rfl) (pe_un un_neg pe_int) (fun _ _ => rfl)) pa_nil)) (by rfl))
      (pss_cons (ps_set (i := 4) sc_column.nd rfl (by first | exact Or.inl rfl | exact Or.inr rfl) pe_non)
      (pss_cons (ps_for (passes_of rfl) rfl (pi_list (LamY.pe_sortedKey (T := Tt) (c := c) (P := Pt) (a := "place") (k := 1) rfl (by rfl) T.n_sorted (by rfl) T.n_range (pe_callB call_len (by rfl) T.n_len bt_len (pa_cons (pe_fld (pv 0) rfl) pa_nil)) L.tb rfl L.mem L.uni (hr.mono (by decide)) (LamY.lamS1_by (by show LamY.lamS1B (defScope st_column) _ _ = true; decide +kernel)) (by show ¬ _ ∈ [("self" : Str), "row", "line", "gains", "found", "column"]; decide +kernel) rfl (fun _ _ _ _ _ _ => rfl) (fun A outer s H f c' hr => pe_ix ix_seq (pe_fld (pv 0) rfl) (pv 6) (fun _ _ => rfl)))) (pg_name (i := 5) sc_column.nd rfl (by first | exact Or.inl rfl | exact Or.inr rfl))
        (pss_one (ps_if (PW.pt (pw_and (pt_cmpR op_lt (pe_ix ix_seq (pv 2) (pv 5) (fun _ _ => rfl)) pe_int (nomark _)) (pw_and1 (PW.pt (pw_or (pt_cmpR op_isN (pv 4) pe_non (nomark _)) (pw_or1 (pt_cmpR op_gt (pe_op op_mulAll (pe_ix ix_seq (pv 3) (pv 5) (fun _ _ => rfl)) (pe_ix ix_seq (pv 2) (pv 4) (fun _ _ => rfl))) (pe_op op_mulAll (pe_ix ix_seq (pv 3) (pv 4) (fun _ _ => rfl)) (pe_ix ix_seq (pv 2) (pv 5) (fun _ _ => rfl))) (nomark _)))))))) (pss_one (ps_set (i := 4) sc_column.nd rfl (by first | exact Or.inl rfl | exact Or.inr rfl) (pv 5))) pss_nil)))
      (pss_one (ps_ret (pv 4)))))),
    (fs_seq (own1 := []) (fs_par (fa_cons (fe_op opf_ix (fe_fld T.cl1 T.na_table (fe_var rfl)) (fe_var rfl)) (fa_cons (fe_op opf_ix (fe_fld T.cl1 T.na_table (fe_var rfl)) (fe_un unf_neg (fe_int 1))) fa_nil)) rfl rfl)
      (fs_seq (own1 := []) (fs_set fe_none rfl)
      (fs_seq (own1 := []) (fx_for (fx_sortF T.cl1 T.na_tight hide_base hF (fe_callB cf_len (fa_cons (fe_fld T.cl1 T.na_tight (fe_var rfl)) fa_nil)) rfl) rfl (fun B => fg_name rfl) (fun B => (fs_if (own' := []) (ft_and (ft_test (fe_op opf_lt (fe_op opf_ix (fe_var rfl) (fe_var rfl)) (fe_int 0))) (ft_or (ft_test (fe_op opf_isN (fe_var rfl) fe_none)) (ft_test (fe_op opf_gt (fe_op opf_mul (fe_op opf_ix (fe_var rfl) (fe_var rfl)) (fe_op opf_ix (fe_var rfl) (fe_var rfl))) (fe_op opf_mul (fe_op opf_ix (fe_var rfl) (fe_var rfl)) (fe_op opf_ix (fe_var rfl) (fe_var rfl))))))) (fs_set (fe_var rfl) rfl) fs_next)) aName_ex)
      (fs_ret (fe_var rfl)))))⟩
end
end K11

set_option Elab.async false
set_option linter.all false
set_option maxRecDepth 100000
/-! Views of what will change; new lists made in a row; an object with lists of its own. -/
namespace Fn
open PySem PySem.Spec L2
section
variable {K : PySem.W.Frag} {cls : Nat → Addr} {B : Hp × Hp × List (Addr × Str)} {F H F' H' F0 H0 G : Hp} {σ : L2.St} {ρ : Rho} {a b p : Addr} {es : List PyData} {L L' : List Addr}
theorem set_same {i : Nat} {v : V} (h : σ[i]? = some (some v)) : σ.set i (some v) = σ := by
  apply List.ext_getElem?
  intro j
  by_cases e : i = j
  · subst e
    rw [h, List.getElem?_set_self (by
      apply Classical.byContradiction
      intro z
      rw [List.getElem?_eq_none (by omega)] at h
      cases h)]
  · rw [List.getElem?_set_ne e]
theorem Sim.reslot (S : Sim K cls B [] σ H F ρ) (i : Nat) {v : V} {d : PyData} (h : σ[i]? = some (some v)) (r : Rep K cls F v d) : Sim K cls B [] σ H F (ρ.set i (some d)) := by
  have := S.setN i r
  rwa [set_same h] at this
theorem Sim.view (S : Sim K cls B [] σ H F ρ) (L : List Addr) : Sim K cls (H, over L H F, []) [] σ H (over L H F) ρ := S.move (over_up S.s L) (over_in S.s L)
theorem over_at (h : a ∈ L) : over L H F a = H a := if_pos h
theorem less_at {L : List Addr} (h : a ∈ L) (hF : F a = none) : less L F F' a = none := by
  unfold less
  rw [if_pos ⟨h, hF⟩]
theorem rep_obj {dx : Addr} {k : Nat} {fs : List (Str × V)} {gs : List (PyData × PyData)} (hx : H a = some (.ins (cls k) dx fs)) (hL : a ∈ L) (rf : RepF K cls (over L H F) fs gs) : Rep K cls (over L H F) (.ref a) (D.ob k gs) :=
  .ob (by rw [over_at hL]; exact hx) rf
theorem rep_lst {ns : List Int} (ht : H a = some (.lst (ns.map V.int))) (hL : a ∈ L) : Rep K cls (over L H F) (.ref a) (.list (ns.map PyData.int)) :=
  .ls (by rw [over_at hL]; exact ht) (RepL.ints ns)
/-! ### new lists made in a row -/
theorem freeze_row : ∀ {as : List Addr} {ess : List (List PyData)} {F : Hp}, Ext F0 G F H → Paired (Own1 K cls F H) as ess → as.Nodup → (∀ a ∈ as, G a = none) → ∃ F', Same F F' ∧ Ext F0 G F' H ∧ RepL K cls F' (as.map V.ref) (ess.map PyData.list) ∧ ∀ b, b ∉ as → F b = none → F' b = none
  | [], [], F, e, .nil, _, _ => ⟨F, Same.refl _, e, .nil, fun _ _ h => h⟩
  | a :: as, es :: ess, F, e, .cons o t, hn, hg => by
    have hn' := List.nodup_cons.mp hn
    obtain ⟨ys, h1, h2, h3⟩ := o
    have e1 := e.keep (hg a List.mem_cons_self) h1
    have s1 : Same F (L2.upd F a (.lst ys)) := same_upd h2
    have t1 : Paired (Own1 K cls (L2.upd F a (.lst ys)) H) as ess := paired_imp t fun b es hb o => by
      obtain ⟨zs, k1, k2, k3⟩ := o
      refine ⟨zs, k1, ?_, k3.mono s1⟩
      have : b ≠ a := fun z => by subst z; exact hn'.1 hb
      rw [upd_ne this]
      exact k2
    obtain ⟨F', s2, e2, r2, k2⟩ := freeze_row e1 t1 hn'.2 fun b hb => hg b (List.mem_cons_of_mem _ hb)
    refine ⟨F', s1.trans s2, e2, .cons (.ls (s2 _ _ upd_same) (h3.mono (s1.trans s2))) r2, fun b hb h => ?_⟩
    refine k2 b (fun z => hb (List.mem_cons_of_mem _ z)) ?_
    have : b ≠ a := fun z => by subst z; exact hb List.mem_cons_self
    rw [upd_ne this]
    exact h
end
section
variable {K : PySem.W.Frag} {c : Ct} {own : List Nat} {F H F' H' : Hp} {σ : L2.St} {ρ : Rho}
theorem rd_new {vs : List Nat} {wi : TI} {g : TG} {te : TE} {gi : Rho → O (List PyData)} {f : PyData → Rho → O Rho} {e : Rho → O PyData} {Q : VK} (hi : FI K c own wi gi) (hg : FC K c.noW own vs g f) (he : FO K c.noW own te e)
    (S : Sim K c.cls c.B own σ H F ρ) {ds : List PyData} {ess : List (List PyData)} (hgi : gi ρ = .ok ds) (hn : ds.length ≤ 1000) (hd : Paired (fun d es => ∃ ρ1, f d (wipeR ρ vs) = .ok ρ1 ∧ e ρ1 = .ok (.list es)) ds ess)
    (q : ∀ p as H' F', Ext F H F' H' → H p = none → F' p = none → (∀ a ∈ as, H a = none) → as.Nodup → p ∉ as → H' p = some (.lst (as.map V.ref)) → Paired (Own1 K c.cls F' H') as ess → Q (.ref p) H') :
    tLc wi g tYes te vs σ H Q := by
  refine hi σ H F ρ _ S ?_
  rw [hgi]
  intro J H1 F1 e1 it A hA
  have S1 := S.ext e1
  have hel := paired_len hd
  refine ⟨fun k m H2 => m = ds.length - k ∧ k ≤ ds.length ∧ ∃ F2 as, Ext F1 H1 F2 H2 ∧ H2 A = some (.lst (as.map V.ref)) ∧ F2 A = none ∧ Paired (Own1 K c.cls F2 H2) as (ess.take k) ∧ as.Nodup ∧ A ∉ as ∧ (∀ a ∈ as, H1 a = none) ∧ as.length = k,
    ⟨ds.length, by omega, Nat.zero_le _, F1, [], Ext.newO e1.s hA, upd_same, e1.s.free hA, by rw [List.take_zero]; exact .nil, List.nodup_nil, List.not_mem_nil, fun _ h => absurd h List.not_mem_nil, rfl⟩, ?_⟩
  rintro k m H2 ⟨rfl, hle, F2, as, e2, hD, hF, hp, hnd, hna, hnew, hlen⟩
  obtain ⟨i1, i2, i3⟩ := it F2 H2 e2.f e2.s k
  by_cases hlt : k < ds.length
  · refine .inr ⟨i1 hlt, fun H3 => ∃ F3 as', Ext F1 H1 F3 H3 ∧ H3 A = some (.lst (as'.map V.ref)) ∧ F3 A = none ∧ Paired (Own1 K c.cls F3 H3) as' (ess.take (k + 1)) ∧ as'.Nodup ∧ A ∉ as' ∧ (∀ a ∈ as', H1 a = none) ∧ as'.length = k + 1,
      fun H3 z => ⟨ds.length - (k + 1), by omega, rfl, hlt, z⟩, fun x H3 y => ?_⟩
    obtain ⟨F3, e3, r3⟩ := i3 x H3 ds[k] (List.getElem?_eq_getElem hlt) y
    obtain ⟨es, hes, ρ1, ho, hee⟩ := paired_get hd (List.getElem?_eq_getElem hlt)
    have e13 := e2.trans e3
    refine hg x ds[k] (L2.wipe σ vs) H3 F3 (wipeR ρ vs) _ ((S1.ext e13).wipe vs) r3 ?_
    rw [ho]
    intro σ4 w4 S4
    refine ⟨w4.trans (wipe_wipe σ vs), yes_rd (ifT ?_)⟩
    refine he σ4 H3 F3 ρ1 _ S4 ?_
    rw [hee]
    refine ⟨es, rfl, fun l xs H5 F5 e5 h5 f5 n5 r5 => ?_⟩
    have e15 := e13.trans e5
    have hD5 := e5.h _ _ (e3.h _ _ hD)
    have f3A : F5 A = none := (e3.trans e5).stays hD hF
    have nA : A ≠ l := ne_of_none (e3.h _ _ hD) n5
    have l1 : H1 l = none := e13.h.free n5
    refine ⟨as.map V.ref, hD5, by rw [List.length_map, hlen]; exact lt_lim (lim_gt (by omega)), F5, as ++ [l], e15.updNew hA f3A, by rw [upd_same, List.map_append]; rfl, f3A, ?_, ?_, ?_, ?_, by rw [List.length_append, hlen]; rfl⟩
    · have ht : ess.take (k + 1) = ess.take k ++ [es] := by
        rw [List.take_add_one, hes]
        rfl
      rw [ht]
      refine Paired.snoc (paired_imp hp fun b' es' hm o => ?_) ⟨xs, by rw [upd_ne nA.symm]; exact h5, f5, r5⟩
      have o3 := o.ext (e3.trans e5)
      refine o3.upd fun z => ?_
      subst z
      exact hna hm
    · rw [List.nodup_append]
      refine ⟨hnd, by simp, fun x hx y hy => ?_⟩
      rw [List.mem_singleton.mp hy]
      intro z
      subst z
      obtain ⟨j, hj⟩ := List.getElem?_of_mem hx
      obtain ⟨_, _, o⟩ := paired_get hp hj
      exact (o.ext e3).ne n5 rfl
    · intro z
      rcases List.mem_append.mp z with z | z
      · exact hna z
      · exact nA (List.mem_singleton.mp z)
    · intro b' hb
      rcases List.mem_append.mp hb with z | z
      · exact hnew b' z
      · rw [List.mem_singleton.mp z]; exact l1
  · have : k = ds.length := by omega
    subst this
    refine .inl ⟨i2 rfl, q A as H2 F2 (e1.trans e2) (e1.h.free hA) hF (fun b hb => e1.h.free (hnew b hb)) hnd hna hD ?_⟩
    rw [hel, List.take_length] at hp
    exact hp
end
/-! ### under a view -/
section
variable {K : PySem.W.Frag} {cls xc : Nat → Addr} {W : WX} {B : Hp × Hp × List (Addr × Str)} {F H : Hp} {σ : L2.St} {ρ : Rho} {L : List Addr} {Q : VK}
theorem less_none {F' : Hp} {p : Addr} (h : F' p = none) : less L F F' p = none := by
  unfold less
  split
  · rfl
  · exact h
/-- a new list of whole numbers, told of an object that is looked at as it stands -/
theorem fo_view {te : TE} {g : Rho → O PyData} (L : List Addr) (h : FO K ⟨cls, xc, W, (H, over L H F, []), false⟩ [] te g) (S : Sim K cls B [] σ H F ρ) (i : Nat) {v : V} {d : PyData} {ns : List Int} (hv : σ[i]? = some (some v)) (r : Rep K cls (over L H F) v d)
    (e : g (ρ.set i (some d)) = .ok (.list (ns.map PyData.int))) (q : ∀ p H' F', Ext F H F' H' → H' p = some (.lst (ns.map V.int)) → F' p = none → H p = none → Q (.ref p) H') : te σ H Q := by
  refine h σ H (over L H F) _ _ ((S.view L).reslot i hv r) ?_
  rw [e]
  refine ⟨_, rfl, fun p xs H' F' e' hp fp np r' => ?_⟩
  have := RepL.of_ints ns r'
  subst this
  exact q p H' _ (less_ext S.s e') hp (less_none fp) np
/-- .. a new list of such lists -/
theorem new_view {vs : List Nat} {wi : TI} {tg : TG} {te : TE} {gi : Rho → O (List PyData)} {f : PyData → Rho → O Rho} {g : Rho → O PyData} (L : List Addr) (hi : FI K ⟨cls, xc, W, (H, over L H F, []), false⟩ [] wi gi) (hg : FC K (Ct.noW ⟨cls, xc, W, (H, over L H F, []), false⟩) [] vs tg f) (he : FO K (Ct.noW ⟨cls, xc, W, (H, over L H F, []), false⟩) [] te g)
    (S : Sim K cls B [] σ H F ρ) (i : Nat) {v : V} {d : PyData} (hv : σ[i]? = some (some v)) (r : Rep K cls (over L H F) v d) {ds : List PyData} {ess : List (List Int)} (hgi : gi (ρ.set i (some d)) = .ok ds) (hn : ds.length ≤ 1000)
    (hd : Paired (fun e es => ∃ ρ1, f e (wipeR (ρ.set i (some d)) vs) = .ok ρ1 ∧ g ρ1 = .ok (.list es)) ds (ess.map fun es => es.map PyData.int))
    (q : ∀ p as H' F', Ext F H F' H' → H p = none → F' p = none → (∀ a ∈ as, H a = none) → as.Nodup → p ∉ as → H' p = some (.lst (as.map V.ref)) → Paired (Own1 K cls F' H') as (ess.map fun es => es.map PyData.int) → Q (.ref p) H') : tLc wi tg tYes te vs σ H Q := by
  refine rd_new hi hg he ((S.view L).reslot i hv r) hgi hn hd fun p as H' F' e' np fp na nd pa hp ho => ?_
  refine q p as H' _ (less_ext S.s e') np (less_none fp) na nd pa hp ?_
  have key : ∀ (as : List Addr) (ess : List (List Int)), Paired (Own1 K cls F' H') as (ess.map fun es => es.map PyData.int) → Paired (Own1 K cls (less L F F') H') as (ess.map fun es => es.map PyData.int) := fun as => by
    induction as with
    | nil => intro ess h; cases ess with
      | nil => exact .nil
      | cons e ess => cases h
    | cons a as ih => intro ess h; cases ess with
      | nil => cases h
      | cons e ess =>
        cases h with
        | cons o t =>
          refine .cons ?_ (ih ess t)
          obtain ⟨ys, h1, h2, h3⟩ := o
          have := RepL.of_ints e h3
          subst this
          exact ⟨_, h1, less_none h2, RepL.ints e⟩
  exact key as ess ho
end
/-! ### a class by its __init__ -/
def InitAt (K : PySem.W.Frag) (C : Addr) (q : Str) (st : Stmt) (ps : List Str) : Prop := ∃ f fd, Fun K "__init__" q st f fd ∧ Mk K C f ∧ Binds K fd ps []
def MkO (P : Program) (w : World) (K : PySem.W.Frag) (mg : Str → Option Value) (base : Heap) (C : Addr) (x : Str) (ps : List Str) (k : Nat) (sp : Sp) : Prop :=
  ∃ f fd, FnOk P w K mg base (L2.CX P w) k f fd ps sp ∧ Mk K C f ∧ mg x = some (.ref C) ∧ Binds K fd ps []
theorem pe_makeC {X : Cx} {C : Addr} {x : Str} {ps : List Str} {k j : Nat} {sp : Sp} {E : XK} {p pos : Pos} {e : Expr} {es : List Expr} {t : TA} (o : MkO X.prog X.w X.K X.mg X.base C x ps k sp) (hr : Room j X.A) (hk : k + 1 ≤ j) (hg : Gl X x)
    (hx : Passes (L2.CX X.prog X.w) X E) (ha : PA X (e :: es) t) (hd : (x == ("__debug__" : Str)) = false := by decide) (he : starEach (e :: es) X.env = (false, eval e X.env) :: starEach es X.env := by rfl) (hpl : (backTo pos (starEach es X.env)).any (·.1) = false := by rfl) :
    PE X (.Call (.Name x p) (e :: es) [] pos) (tMake C sp [] E t) := by
  obtain ⟨f, fd, F, M, m, b⟩ := o
  exact pe_make M F (hr.mono hk) hg m b .nil hx ha hd he hpl
theorem mk_of {P : Program} {w : World} {K : PySem.W.Frag} {mg : Str → Option Value} {base : Heap} {C : Addr} {x q : Str} {st : Stmt} {ps N : List Str} {k : Nat} {sp : Sp} (d : InitAt K C q st ps) (S : FnScope N ps (defScope st)) (hm : mg x = some (.ref C)) (len : ∀ vs H Q E, sp vs H Q E → vs.length = ps.length)
    (h : ∀ (f : Addr) (cdv : Value) (A : Around) (outer : List Env) (s : Shared) (H : Hp) (vs : List V) (Q : VK) (E : XK), Room k (A.deeper (PyProof.Rows.envOfC q (defScope st) s.heap.objs.size f cdv)) → sp vs H Q E →
      ∃ t, PSs (cxOf (L2.CX P w) P w K mg base N q (defScope st) f cdv A outer s H E) (defBody st) t ∧ t { nx := fun _ H' => Q .non H', rt := Q } (L2.start N vs) H) : MkO P w K mg base C x ps (k + 1) sp := by
  obtain ⟨f, fd, F, M, b⟩ := d
  exact ⟨f, fd, F.okX S len (h f), M, hm, b⟩
/-- a method by a reading of its own -/
theorem okMS_of {P : Program} {w : World} {K : PySem.W.Frag} {mg : Str → Option Value} {base : Heap} {C : Addr} {x q : Str} {st : Stmt} {ps N : List Str} {k : Nat} {sp : Sp} (d : MethAt K C x q st ps) (S : FnScope N ps (defScope st)) (len : ∀ vs H Q E, sp vs H Q E → vs.length = ps.length)
    (h : ∀ (f : Addr) (cdv : Value) (A : Around) (outer : List Env) (s : Shared) (H : Hp) (vs : List V) (Q : VK) (E : XK), Room k (A.deeper (PyProof.Rows.envOfC q (defScope st) s.heap.objs.size f cdv)) → sp vs H Q E →
      ∃ t, PSs (cxOf (L2.CX P w) P w K mg base N q (defScope st) f cdv A outer s H E) (defBody st) t ∧ t { nx := fun _ H' => Q .non H', rt := Q } (L2.start N vs) H) : OkM P w K mg base C x ps (k + 1) sp := by
  obtain ⟨f, fd, F, M, b⟩ := d
  exact ⟨f, fd, F.okX S len (h f), M, b⟩
/-- a def by a reading of its own -/
def OkS (P : Program) (w : World) (K : PySem.W.Frag) (mg : Str → Option Value) (base : Heap) (x : Str) (ps : List Str) (k : Nat) (sp : Sp) : Prop :=
  ∃ f fd, FnOk P w K mg base (L2.CX P w) k f fd ps sp ∧ mg x = some (.ref f) ∧ PySem.W.keepIn K (.ref f) = true ∧ Binds K fd ps []
theorem okS_of {P : Program} {w : World} {K : PySem.W.Frag} {mg : Str → Option Value} {base : Heap} {x : Str} {st : Stmt} {ps N : List Str} {k : Nat} {sp : Sp} (d : DefAt K mg x st ps) (S : FnScope N ps (defScope st)) (len : ∀ vs H Q E, sp vs H Q E → vs.length = ps.length)
    (h : ∀ (f : Addr) (cdv : Value) (A : Around) (outer : List Env) (s : Shared) (H : Hp) (vs : List V) (Q : VK) (E : XK), Room k (A.deeper (PyProof.Rows.envOfC x (defScope st) s.heap.objs.size f cdv)) → sp vs H Q E →
      ∃ t, PSs (cxOf (L2.CX P w) P w K mg base N x (defScope st) f cdv A outer s H E) (defBody st) t ∧ t { nx := fun _ H' => Q .non H', rt := Q } (L2.start N vs) H) : OkS P w K mg base x ps (k + 1) sp := by
  obtain ⟨f, fd, F, m, b⟩ := d
  exact ⟨f, fd, F.okX S len (h f), m, F.kp, b⟩
/-! ### a corner: an object with two lists of its own -/
section
variable {K : PySem.W.Frag} {cls : Nat → Addr} {F H F' H' : Hp}
abbrev corF (t o : Addr) (vt : V) (s : Int) : List (Str × V) := [("tight", .ref t), ("others", .ref o), ("table", vt), ("scale", .int s)]
abbrev D.cor (T O : List Int) (tab : PyData) (s : Int) : PyData := D.ob 1 [(.str "tight", .list (T.map PyData.int)), (.str "others", .list (O.map PyData.int)), (.str "table", tab), (.str "scale", .int s)]
structure CorA (K : PySem.W.Frag) (cls : Nat → Addr) (F H : Hp) (x t o : Addr) (T O : List Int) (tab : PyData) (s : Int) : Prop where
  hx : ∃ dx vt, H x = some (.ins (cls 1) dx (corF t o vt s)) ∧ Rep K cls F vt tab
  ht : H t = some (.lst (T.map V.int))
  ho : H o = some (.lst (O.map V.int))
  fx : F x = none
  ft : F t = none
  fo : F o = none
  ne : t ≠ o
variable {x t o : Addr} {T O : List Int} {tab : PyData} {s : Int}
theorem CorA.ext (C : CorA K cls F H x t o T O tab s) (e : Ext F H F' H') : CorA K cls F' H' x t o T O tab s := by
  obtain ⟨⟨dx, vt, h1, h2⟩, h3, h4, h5, h6, h7, h8⟩ := C
  exact ⟨⟨dx, vt, e.h _ _ h1, h2.mono e.f⟩, e.h _ _ h3, e.h _ _ h4, e.stays h1 h5, e.stays h3 h6, e.stays h4 h7, h8⟩
theorem CorA.rep (C : CorA K cls F H x t o T O tab s) (sm : Same F H) : Rep K cls (over [x, t, o] H F) (.ref x) (D.cor T O tab s) := by
  obtain ⟨dx, vt, h1, h2⟩ := C.hx
  refine rep_obj h1 List.mem_cons_self (.cons (rep_lst C.ht (by simp)) (.cons (rep_lst C.ho (by simp)) (.cons (h2.mono (over_up sm _)) (.cons (.int s) .nil))))
end
end Fn

set_option Elab.async false
set_option linter.all false
set_option maxRecDepth 100000
namespace K11
open PySem PySem.Spec L2 Fn
abbrev st_cinit : Stmt := inClass (topS 27) 0
abbrev iN : List Str := ["self", "problem", "told", "first", "unknown", "number", "fact", "signs", "ends", "sign"]
theorem sc_init : FnScope iN ["self", "problem", "told"] (defScope st_cinit) := ⟨rfl, rfl, rfl, by decide +kernel, rfl, by decide +kernel, by decide +kernel⟩
def cI_first : Rho → O PyData := (gB bLen (gConsA (gFld "rows" 0 (gVar 1)) gNilA))
def cI_T : Rho → O PyData := (gComp [4, 5] (aTup (aCons (aName 4) (aCons (aName 5) aNil))) gYes (gAdd (gAdd (gVar 3) (gMul (gC (.int 2)) (gVar 4))) (gIf (gBl (gGe (gVar 5) (gC (.int 0)))) (gC (.int 0)) (gC (.int 1)))) (gEnum (gConsA (gFld "gain" 0 (gVar 1)) gNilA)))
def cI_O : Rho → O PyData := (gComp [6] (aName 6) (gBl (gNotIn (gVar 6) (gFld "tight" 1 (gVar 0)))) (gVar 6) (gRng1 (gConsA (gB bLen (gConsA (gVar 2) gNilA)) gNilA)))
def cI_S : Rho → O PyData := (gComp [4, 6] (aTup (aCons (aName 4) (aCons (aName 6) aNil))) gYes (gIx (gIx (gIx (gVar 2) (gVar 6)) (gC (.int 0))) (gVar 4)) (gEnum (gConsA (gFld "tight" 1 (gVar 0)) gNilA)))
def cI_E : Rho → O PyData := (gComp [9, 6] (aTup (aCons (aName 9) (aCons (aName 6) aNil))) gYes (gMul (gVar 9) (gIx (gIx (gVar 2) (gVar 6)) (gC (.int 1)))) (gZipM (gConsA (gVar 7) (gConsA (gFld "tight" 1 (gVar 0)) gNilA))))
def cI_row : Rho → O PyData := (gFnL 3 f_slack_line (gConsA (gIx (gVar 2) (gVar 6)) (gConsA (gVar 7) (gConsA (gVar 8) gNilA))))
def cI_gain : Rho → O PyData := (gFnL 3 f_gain_line (gConsA (gFld "gain" 0 (gVar 1)) (gConsA (gVar 7) (gConsA (gVar 8) gNilA))))
abbrev iL (l : List Int) : PyData := .list (l.map PyData.int)
/-- what __init__ reckons -/
structure InitOk (dp dt : PyData) (fi : Int) (T O Sg En : List Int) (rows : List (List Int)) (gl : List Int) : Prop where
  first : ∀ s, cI_first [s, some dp, some dt, none, none, none, none, none, none, none] = .ok (.int fi)
  tight : ∀ s, cI_T [s, some dp, some dt, some (.int fi), none, none, none, none, none, none] = .ok (iL T)
  others : cI_O [some (D.ob 1 [(.str "tight", iL T)]), some dp, some dt, some (.int fi), none, none, none, none, none, none] = .ok (iL O)
  signs : cI_S [some (D.ob 1 [(.str "tight", iL T), (.str "others", iL O)]), some dp, some dt, some (.int fi), none, none, none, none, none, none] = .ok (iL Sg)
  ends : cI_E [some (D.ob 1 [(.str "tight", iL T), (.str "others", iL O)]), some dp, some dt, some (.int fi), none, none, none, some (iL Sg), none, none] = .ok (iL En)
  rows : Paired (fun f r => ∀ s, cI_row [s, some dp, some dt, some (.int fi), none, none, some (.int f), some (iL Sg), some (iL En), none] = .ok (iL r)) O rows
  gain : ∀ s, cI_gain [s, some dp, some dt, some (.int fi), none, none, none, some (iL Sg), some (iL En), none] = .ok (iL gl)
  len : O.length ≤ 1000
def spCI (K : PySem.W.Frag) (cls : Nat → Addr) : Sp := fun vs H Q _ => ∃ F x dx v1 v2 dp dt fi T O Sg En rows gl, vs = [.ref x, v1, v2] ∧ Same F H ∧ H x = some (.ins (cls 1) dx []) ∧ F x = none ∧ Rep K cls F v1 dp ∧ Rep K cls F v2 dt ∧ InitOk dp dt fi T O Sg En rows gl ∧
  ∀ H' F' t o, Ext F (hide [x] H) F' H' → H t = none → H o = none → CorA K cls F' H' x t o T O (.list ((rows ++ [gl]).map iL)) 1 → Q .non H'
theorem pf1 (v : V) : putF "tight" v [] = ([("tight", v)] : List (Str × V)) := rfl
theorem pf2 (a v : V) : putF "others" v [(("tight" : Str), a)] = ([("tight", a), ("others", v)] : List (Str × V)) := by
  show (if ("tight" : Str) = "others" then [(("others" : Str), v)] else (("tight" : Str), a) :: putF "others" v []) = _
  rw [if_neg (by decide +kernel)]
  rfl
theorem putF_ne {f g : Str} {x v : V} {r : List (Str × V)} (h : ¬ g = f) : putF f v ((g, x) :: r) = (g, x) :: putF f v r := if_neg h
theorem pf3 (a b v : V) : putF "table" v [(("tight" : Str), a), ("others", b)] = ([("tight", a), ("others", b), ("table", v)] : List (Str × V)) := by
  rw [putF_ne (by decide +kernel), putF_ne (by decide +kernel)]
  rfl
theorem pf4 (a b d v : V) : putF "scale" v [(("tight" : Str), a), ("others", b), ("table", d)] = ([("tight", a), ("others", b), ("table", d), ("scale", v)] : List (Str × V)) := by
  rw [putF_ne (by decide +kernel), putF_ne (by decide +kernel), putF_ne (by decide +kernel)]
  rfl
theorem rows_key {sd dp dt : Option PyData} {fi : Int} {Sg En : List Int} : ∀ {O : List Int} {rows : List (List Int)}, Paired (fun f r => ∀ s, cI_row [s, dp, dt, some (.int fi), none, none, some (.int f), some (iL Sg), some (iL En), none] = .ok (iL r)) O rows →
    Paired (fun e es => ∃ ρ1, aName 6 e (wipeR [sd, dp, dt, some (.int fi), none, none, none, some (iL Sg), some (iL En), none] [6]) = .ok ρ1 ∧ cI_row ρ1 = .ok (.list es)) (O.map PyData.int) (rows.map fun es => es.map PyData.int)
  | _, _, .nil => .nil
  | _, _, .cons h t => .cons ⟨_, rfl, h sd⟩ (rows_key t)
section
variable {P : Program} {w : World} {K : PySem.W.Frag} {mg : Str → Option Value} {base : Heap} {cls xc : Nat → Addr}
theorem p_cinit (T : Top K mg xc cls) (f : Addr) (cdv : Value) (A : Around) (outer : List Env) (s : Shared) (H : Hp) (E : XK) (hr : Room 3 (A.deeper (PyProof.Rows.envOfC "Corner.__init__" (defScope st_cinit) s.heap.objs.size f cdv))) :
    ∃ t1 tT tO tS tE tA tB, (∀ B, FS K ⟨cls, xc, fun c d _ H => E c d H, B, false⟩ [] [] [] t1 (gSet 3 cI_first)) ∧ (∀ B, FO K ⟨cls, xc, fun c d _ H => E c d H, B, false⟩ [] tT cI_T) ∧ (∀ B, FO K ⟨cls, xc, fun c d _ H => E c d H, B, false⟩ [] tO cI_O) ∧ (∀ B, FO K ⟨cls, xc, fun c d _ H => E c d H, B, false⟩ [] tS cI_S) ∧ (∀ B, FO K ⟨cls, xc, fun c d _ H => E c d H, B, false⟩ [] tE cI_E) ∧
      (∀ B, FA K ⟨cls, xc, fun _ _ _ _ => False, B, false⟩ [] true tA (gConsA (gIx (gVar 2) (gVar 6)) (gConsA (gVar 7) (gConsA (gVar 8) gNilA)))) ∧ (∀ B, FA K ⟨cls, xc, fun c d _ H => E c d H, B, false⟩ [] true tB (gConsA (gFld "gain" 0 (gVar 1)) (gConsA (gVar 7) (gConsA (gVar 8) gNilA)))) ∧
      PSs (cxOf (L2.CX P w) P w K mg base iN "Corner.__init__" (defScope st_cinit) f cdv A outer s H E) (defBody st_cinit) (tSeq t1 (tSeq (sFld K (tVar 0) tT "tight") (tSeq (sFld K (tVar 0) tO "others") (tSeq (tAsg tS (gName 7)) (tSeq (tAsg tE (gName 8)) (tSeq (sFld K (tVar 0) (tLc (iAny K (tFld K (tVar 0) "others")) (gName 6) tYes (tCallS (spN K cls xc 3 f_slack_line) (WE fun _ _ _ _ => False) tA) [6]) "table") (tSeq (tDrop (tBM K "list" rAppend (tFld K (tVar 0) "table") (tCons (tCallS (spN K cls xc 3 f_gain_line) (WE fun c d _ H => E c d H) tB) tNil))) (sFld K (tVar 0) (tC (.int 1)) "scale")))))))) :=
  ⟨_, _, _, _, _, _, _, fun B => (fs_set (fe_callB cf_len (fa_cons (fe_fld T.cl0 T.na_rows (fe_var rfl)) fa_nil)) rfl), fun B => (fo_comp (vs := [4, 5]) (fi_enum (fa_cons (fe_fld T.cl0 T.na_gain (fe_var rfl)) fa_nil)) (fc_tup (fcs_cons (fc_name rfl rfl) (fcs_cons (fc_name rfl rfl) fcs_nil)) (aCons_len (aCons_len aNil_len aName_ex) aName_ex)) (aTup_ex (aCons_ex aName_ex (aCons_ex aName_ex aNil_ex))) ft_yes (fe_op opf_add (fe_op opf_add (fe_var rfl) (fe_op opf_mul (fe_int 2) (fe_var rfl))) (fe_if (ft_test (fe_op opf_ge (fe_var rfl) (fe_int 0))) (fe_int 0) (fe_int 1)))), fun B => (fo_comp (vs := [6]) (fi_range1 (fa_cons (fe_callB cf_len (fa_cons (fe_var rfl) fa_nil)) fa_nil)) (fc_name rfl rfl) aName_ex (ft_test (fe_op opf_in (fe_var rfl) (fe_fld T.cl1 T.na_tight (fe_var rfl)))) (fe_var rfl)), fun B => (fo_comp (vs := [4, 6]) (fi_enum (fa_cons (fe_fld T.cl1 T.na_tight (fe_var rfl)) fa_nil)) (fc_tup (fcs_cons (fc_name rfl rfl) (fcs_cons (fc_name rfl rfl) fcs_nil)) (aCons_len (aCons_len aNil_len aName_ex) aName_ex)) (aTup_ex (aCons_ex aName_ex (aCons_ex aName_ex aNil_ex))) ft_yes (fe_op opf_ix (fe_op opf_ix (fe_op opf_ix (fe_var rfl) (fe_var rfl)) (fe_int 0)) (fe_var rfl))), fun B => (fo_comp (vs := [9, 6]) (fi_zipM (fa_cons (fe_var rfl) (fa_cons (fe_fld T.cl1 T.na_tight (fe_var rfl)) fa_nil))) (fc_tup (fcs_cons (fc_name rfl rfl) (fcs_cons (fc_name rfl rfl) fcs_nil)) (aCons_len (aCons_len aNil_len aName_ex) aName_ex)) (aTup_ex (aCons_ex aName_ex (aCons_ex aName_ex aNil_ex))) ft_yes (fe_op opf_mul (fe_var rfl) (fe_op opf_ix (fe_op opf_ix (fe_var rfl) (fe_var rfl)) (fe_int 1)))), fun B => (fa_cons (fe_op opf_ix (fe_var rfl) (fe_var rfl)) (fa_cons (fe_var rfl) (fa_cons (fe_var rfl) fa_nil))), fun B => (fa_cons (fe_fld T.cl0 T.na_gain (fe_var rfl)) (fa_cons (fe_var rfl) (fa_cons (fe_var rfl) fa_nil))), (pss_cons (ps_set (i := 3) sc_init.nd rfl (by first | exact Or.inl rfl | exact Or.inr rfl) (pe_callB call_len (by rfl) T.n_len bt_len (pa_cons (pe_fld (pv 1) rfl) pa_nil)))
      (pss_cons (ps_fld (pv 0) (pe_lc (own := [("unknown", 4), ("number", 5)]) rfl sc_init.nd (pi_enum (by rfl) T.n_enumerate (pa_cons (pe_fld (pv 1) rfl) pa_nil)) (blkOk_by (N := ["self", "problem", "told", "first", "unknown", "number", "fact", "signs", "ends", "sign"]) (sc := defScope st_cinit) (own := [("unknown", 4), ("number", 5)]) (by decide +kernel)) (fun _ _ _ _ _ => (pg_tup (by rfl) (pgs_cons (pg_name (i := 4) sc_init.nd rfl (by first | exact Or.inl rfl | exact Or.inr rfl)) (pgs_cons (pg_name (i := 5) sc_init.nd rfl (by first | exact Or.inl rfl | exact Or.inr rfl)) pgs_nil)))) (fun _ _ _ _ _ => pts_nil) (fun _ _ _ _ _ => (pe_op op_addAll (pe_op op_addAll (pv 3) (pe_op op_mulAll pe_int (pv 4))) (pe_ifExp (pt_cmpR op_ge (pv 5) pe_int (nomark _)) pe_int pe_int)))) rfl)
      (pss_cons (ps_fld (pv 0) (pe_lc (own := [("fact", 6)]) rfl sc_init.nd (pi_range1 (by rfl) T.n_range (pa_cons (pe_callB call_len (by rfl) T.n_len bt_len (pa_cons (pv 2) pa_nil)) pa_nil)) (blkOk_by (N := ["self", "problem", "told", "first", "unknown", "number", "fact", "signs", "ends", "sign"]) (sc := defScope st_cinit) (own := [("fact", 6)]) (by decide +kernel)) (fun _ _ _ _ _ => (pg_name (i := 6) sc_init.nd rfl (by first | exact Or.inl rfl | exact Or.inr rfl))) (fun _ _ _ _ _ => (pts_one (pt_cmpR op_notInAll (pv 6) (pe_fld (pv 0) rfl) (by rfl)))) (fun _ _ _ _ _ => (pv 6))) rfl)
      (pss_cons (ps_set (i := 7) sc_init.nd rfl (by first | exact Or.inl rfl | exact Or.inr rfl) (pe_lc (own := [("unknown", 4), ("fact", 6)]) rfl sc_init.nd (pi_enum (by rfl) T.n_enumerate (pa_cons (pe_fld (pv 0) rfl) pa_nil)) (blkOk_by (N := ["self", "problem", "told", "first", "unknown", "number", "fact", "signs", "ends", "sign"]) (sc := defScope st_cinit) (own := [("unknown", 4), ("fact", 6)]) (by decide +kernel)) (fun _ _ _ _ _ => (pg_tup (by rfl) (pgs_cons (pg_name (i := 4) sc_init.nd rfl (by first | exact Or.inl rfl | exact Or.inr rfl)) (pgs_cons (pg_name (i := 6) sc_init.nd rfl (by first | exact Or.inl rfl | exact Or.inr rfl)) pgs_nil)))) (fun _ _ _ _ _ => pts_nil) (fun _ _ _ _ _ => (pe_ix ix_seq (pe_ix ix_seq (pe_ix ix_seq (pv 2) (pv 6) (fun _ _ => rfl)) pe_int (fun _ _ => rfl)) (pv 4) (fun _ _ => rfl)))))
      (pss_cons (ps_set (i := 8) sc_init.nd rfl (by first | exact Or.inl rfl | exact Or.inr rfl) (pe_lc (own := [("sign", 9), ("fact", 6)]) rfl sc_init.nd (FnZ.pi_zipM (by rfl) T.n_zip (pa_cons (pv 7) (pa_cons (pe_fld (pv 0) rfl) pa_nil))) (blkOk_by (N := ["self", "problem", "told", "first", "unknown", "number", "fact", "signs", "ends", "sign"]) (sc := defScope st_cinit) (own := [("sign", 9), ("fact", 6)]) (by decide +kernel)) (fun _ _ _ _ _ => (pg_tup (by rfl) (pgs_cons (pg_name (i := 9) sc_init.nd rfl (by first | exact Or.inl rfl | exact Or.inr rfl)) (pgs_cons (pg_name (i := 6) sc_init.nd rfl (by first | exact Or.inl rfl | exact Or.inr rfl)) pgs_nil)))) (fun _ _ _ _ _ => pts_nil) (fun _ _ _ _ _ => (pe_op op_mulAll (pv 9) (pe_ix ix_seq (pe_ix ix_seq (pv 2) (pv 6) (fun _ _ => rfl)) pe_int (fun _ _ => rfl))))))
      (pss_cons (ps_fld (pv 0) (pe_lc (own := [("fact", 6)]) rfl sc_init.nd (pi_any (pe_fld (pv 0) rfl)) (blkOk_by (N := ["self", "problem", "told", "first", "unknown", "number", "fact", "signs", "ends", "sign"]) (sc := defScope st_cinit) (own := [("fact", 6)]) (by decide +kernel)) (fun _ _ _ _ _ => (pg_name (i := 6) sc_init.nd rfl (by first | exact Or.inl rfl | exact Or.inr rfl))) (fun _ _ _ _ _ => pts_nil) (fun _ _ _ _ _ => (pe_callNO (okn_slack_line T) hr (by decide) (by rfl) takes0 (pa_cons (pe_ix ix_seq (pv 2) (pv 6) (fun _ _ => rfl)) (pa_cons (pv 7) (pa_cons (pv 8) pa_nil)))))) rfl)
      (pss_cons (ps_expr (pe_bm PySem.F.plainAttrs_list PySem.F.slot_list_append PySem.F.type_list_append mt_append (pe_fld (pv 0) rfl) (pa_cons (pe_callNO (okn_gain_line T) hr (by decide) (by rfl) (takes_of rfl rfl rfl rfl) (pa_cons (pe_fld (pv 1) rfl) (pa_cons (pv 7) (pa_cons (pv 8) pa_nil)))) pa_nil)))
      (pss_one (ps_fld (pv 0) pe_int rfl)))))))))⟩
theorem ok_cinit (T : Top K mg xc cls) (A : InitAt K (cls 1) "Corner.__init__" st_cinit ["self", "problem", "told"]) : MkO P w K mg base (cls 1) "Corner" ["self", "problem", "told"] 4 (spCI K cls) := by
  refine mk_of A sc_init T.mc_Corner (fun vs H Q E h => ?_) fun f cdv A outer s H vs Q E hr hsp => ?_
  · obtain ⟨F0, x, dx, v1, v2, dp, dt, fi, T, O, Sg, En, rows, gl, rfl, _⟩ := h
    rfl
  · obtain ⟨t1, tT, tO, tS, tE, tA, tB, f1, fT, fO, fS, fE, fA, fB, hP⟩ := p_cinit (P := P) (w := w) (K := K) (mg := mg) (base := base) (cls := cls) (xc := xc) T f cdv A outer s H E hr
    refine ⟨_, hP, ?_⟩
    obtain ⟨F0, x, dx, v1, v2, dp, dt, fi, TT, O, Sg, En, rows, gl, rfl, sF, hx, fx, r1, r2, I, q⟩ := hsp
    have S0 : Sim K cls (H, F0, []) [] (L2.start iN [.ref x, v1, v2]) H F0 [some (D.ad x), some dp, some dt, none, none, none, none, none, none, none] := sim_start (K := K) (cls := cls) (N := iN) sF (.cons (.ad x) (.cons r1 (.cons r2 .nil)))
    have E0 := ext_hid0 (L := [x]) sF fun y hy => by rw [List.mem_singleton.mp hy]; exact fx
    have Gx : hide [x] H x = none := hide_in List.mem_cons_self
    have free : ∀ {p}, hide [x] H p = none → p ≠ x → H p = none := fun {p} h ne => by
      rw [hide_out (by simpa using ne)] at h
      exact h
    generalize L2.start iN [.ref x, v1, v2] = σ at S0 ⊢
    -- first
    refine seq_rd (run_nx (xc := xc) (W := fun c d _ H => E c d H) (fr := false) (ol := []) (f1 _) S0 (ρ' := [some (D.ad x), some dp, some dt, some (.int fi), none, none, none, none, none, none]) (by
      show gSet 3 cI_first _ = _
      unfold gSet
      rw [I.first]
      rfl) fun σ1 H1 F1 e1 S1 => nx_rd ?_)
    have hx1 : H1 x = some (.ins (cls 1) dx []) := e1.h _ _ hx
    have fx1 : F1 x = none := e1.stays hx fx
    have E1 := E0.trans e1
    -- self.tight
    refine seq_rd ?_
    refine fT (H1, F1, []) σ1 H1 F1 _ _ S1 ?_
    rw [I.tight]
    refine ⟨_, rfl, fun t xs H2 F2 e2 ht2 ft2 nt2 rt => ?_⟩
    have := RepL.of_ints TT rt
    subst this
    have hx2 := e2.h _ _ hx1
    have fx2 := e2.stays hx1 fx1
    refine ⟨_, S1.adr rfl, x, cls 1, dx, [], rfl, hx2, T.cl1, T.na_tight, by decide, nx_rd ?_⟩
    rw [pf1]
    have tx : t ≠ x := fun z => by subst z; rw [hx1] at nt2; cases nt2
    have E2 := (E1.trans e2).updNew (o := .ins (cls 1) dx [("tight", V.ref t)]) Gx fx2
    have Ht : H t = none := free (E1.h.free nt2) tx
    have s3 : Same F2 (L2.upd H2 x (.ins (cls 1) dx [("tight", V.ref t)])) := E2.s
    have hx3 : L2.upd H2 x (.ins (cls 1) dx [("tight", V.ref t)]) x = some (.ins (cls 1) dx [("tight", V.ref t)]) := upd_same
    have ht3 : L2.upd H2 x (.ins (cls 1) dx [("tight", V.ref t)]) t = some (.lst (TT.map V.int)) := by rw [upd_ne tx]; exact ht2
    have S3 := S1.move e2.f s3
    generalize L2.upd H2 x (.ins (cls 1) dx [("tight", V.ref t)]) = H3 at E2 s3 hx3 ht3 S3 ⊢
    -- self.others
    refine seq_rd ?_
    refine fo_view [x, t] (fO _) S3 0 (S3.adr rfl) (rep_obj (k := 1) (gs := [(.str "tight", iL TT)]) hx3 List.mem_cons_self (.cons (rep_lst ht3 (by simp)) .nil)) I.others fun o H4 F4 e4 ho4 fo4 no4 => ?_
    have hx4 := e4.h _ _ hx3
    have fx4 := e4.stays hx3 fx2
    have ht4 := e4.h _ _ ht3
    have ft4 := e4.stays ht3 ft2
    refine ⟨_, S3.adr rfl, x, cls 1, dx, _, rfl, hx4, T.cl1, T.na_others, by show 1 < 1000; decide, nx_rd ?_⟩
    rw [pf2]
    have ox : o ≠ x := fun z => by subst z; rw [hx3] at no4; cases no4
    have ot : t ≠ o := fun z => by subst z; rw [ht3] at no4; cases no4
    have Ho : H o = none := free (E2.h.free no4) ox
    have E4 := (E2.trans e4).updNew (o := .ins (cls 1) dx [("tight", V.ref t), ("others", V.ref o)]) Gx fx4
    have S5 := S3.move e4.f E4.s
    have hx5 : L2.upd H4 x (.ins (cls 1) dx [("tight", V.ref t), ("others", V.ref o)]) x = _ := upd_same
    have ht5 : L2.upd H4 x (.ins (cls 1) dx [("tight", V.ref t), ("others", V.ref o)]) t = some (.lst (TT.map V.int)) := by rw [upd_ne tx]; exact ht4
    have ho5 : L2.upd H4 x (.ins (cls 1) dx [("tight", V.ref t), ("others", V.ref o)]) o = some (.lst (O.map V.int)) := by rw [upd_ne ox]; exact ho4
    generalize L2.upd H4 x (.ins (cls 1) dx [("tight", V.ref t), ("others", V.ref o)]) = H5 at E4 S5 hx5 ht5 ho5 ⊢
    have rv : ∀ {H F}, H x = some (.ins (cls 1) dx [("tight", V.ref t), ("others", V.ref o)]) → H t = some (.lst (TT.map V.int)) → H o = some (.lst (O.map V.int)) → Rep K cls (over [x, t, o] H F) (.ref x) (D.ob 1 [(.str "tight", iL TT), (.str "others", iL O)]) := fun a b c =>
      rep_obj a List.mem_cons_self (.cons (rep_lst b (by simp)) (.cons (rep_lst c (by simp)) .nil))
    -- signs
    refine seq_rd (asg_rd (fo_view [x, t, o] (fS _) S5 0 (S5.adr rfl) (rv hx5 ht5 ho5) I.signs fun p H6 F6 e6 hp6 fp6 np6 => nx_rd ?_))
    have E6 := (E4.trans e6).keep (E4.h.free np6) hp6
    have k6 : Same F6 (L2.upd F6 p (.lst (Sg.map V.int))) := same_upd fp6
    have S6 := (S5.move (e6.f.trans k6) E6.s).setN 7 (v := .ref p) (d := iL Sg) (.ls upd_same (RepL.ints Sg))
    have px : p ≠ x := fun z => by subst z; rw [hx5] at np6; cases np6
    have pt : p ≠ t := fun z => by subst z; rw [ht5] at np6; cases np6
    have po : p ≠ o := fun z => by subst z; rw [ho5] at np6; cases np6
    have hx6 := e6.h _ _ hx5
    have ht6 := e6.h _ _ ht5
    have ho6 := e6.h _ _ ho5
    have fx6 : L2.upd F6 p (.lst (Sg.map V.int)) x = none := by rw [upd_ne px.symm]; exact e6.stays hx5 fx4
    have ft6 : L2.upd F6 p (.lst (Sg.map V.int)) t = none := by rw [upd_ne pt.symm]; exact e6.stays ht5 ft4
    have fo6 : L2.upd F6 p (.lst (Sg.map V.int)) o = none := by rw [upd_ne po.symm]; exact e6.stays ho5 fo4
    generalize L2.upd F6 p (.lst (Sg.map V.int)) = F7 at E6 k6 S6 fx6 ft6 fo6 ⊢
    -- ends
    refine seq_rd (asg_rd (fo_view [x, t, o] (fE _) S6 0 (S6.adr rfl) (rv hx6 ht6 ho6) I.ends fun p8 H8 F8 e8 hp8 fp8 np8 => nx_rd ?_))
    have E8 := (E6.trans e8).keep (E6.h.free np8) hp8
    have k8 : Same F8 (L2.upd F8 p8 (.lst (En.map V.int))) := same_upd fp8
    have S8 := (S6.move (e8.f.trans k8) E8.s).setN 8 (v := .ref p8) (d := iL En) (.ls upd_same (RepL.ints En))
    have p8x : p8 ≠ x := fun z => by subst z; rw [hx6] at np8; cases np8
    have p8t : p8 ≠ t := fun z => by subst z; rw [ht6] at np8; cases np8
    have p8o : p8 ≠ o := fun z => by subst z; rw [ho6] at np8; cases np8
    have hx8 := e8.h _ _ hx6
    have ht8 := e8.h _ _ ht6
    have ho8 := e8.h _ _ ho6
    have fx8 : L2.upd F8 p8 (.lst (En.map V.int)) x = none := by rw [upd_ne p8x.symm]; exact e8.stays hx6 fx6
    have ft8 : L2.upd F8 p8 (.lst (En.map V.int)) t = none := by rw [upd_ne p8t.symm]; exact e8.stays ht6 ft6
    have fo8 : L2.upd F8 p8 (.lst (En.map V.int)) o = none := by rw [upd_ne p8o.symm]; exact e8.stays ho6 fo6
    generalize L2.upd F8 p8 (.lst (En.map V.int)) = F9 at E8 k8 S8 fx8 ft8 fo8 ⊢
    have S8 : Sim K cls _ [] _ _ _ [some (D.ad x), some dp, some dt, some (.int fi), none, none, none, some (iL Sg), some (iL En), none] := S8
    -- self.table
    refine seq_rd ?_
    refine new_view [x, t, o] (xc := xc) (W := fun c d _ H => E c d H) (g := cI_row) (ess := rows) (ds := O.map PyData.int) (fi_any (fe_fld T.cl1 T.na_others (fe_var rfl))) (fc_name rfl rfl) (fo_callN rfl (fA _)) S8 0 (S8.adr rfl) (rv hx8 ht8 ho8) rfl (by rw [List.length_map]; exact I.len) ?_ fun tb as H10 F10 e10 ntb ftb nas nd tba htb oas => ?_
    · exact rows_key I.rows
    have nx : x ∉ as := fun z => by have := nas x z; rw [hx8] at this; cases this
    have nt : t ∉ as := fun z => by have := nas t z; rw [ht8] at this; cases this
    have no : o ∉ as := fun z => by have := nas o z; rw [ho8] at this; cases this
    have tbx : tb ≠ x := fun z => by subst z; rw [hx8] at ntb; cases ntb
    have tbt : tb ≠ t := fun z => by subst z; rw [ht8] at ntb; cases ntb
    have tbo : tb ≠ o := fun z => by subst z; rw [ho8] at ntb; cases ntb
    obtain ⟨F11, s11, E11, r11, k11⟩ := freeze_row (E8.trans e10) oas nd fun a ha => E8.h.free (nas a ha)
    have hx10 := e10.h _ _ hx8
    have ht10 := e10.h _ _ ht8
    have ho10 := e10.h _ _ ho8
    have fx11 := k11 x nx (e10.stays hx8 fx8)
    have ft11 := k11 t nt (e10.stays ht8 ft8)
    have fo11 := k11 o no (e10.stays ho8 fo8)
    have ftb11 := k11 tb tba ftb
    have Gtb := E8.h.free ntb
    refine ⟨_, S8.adr rfl, x, cls 1, dx, _, rfl, hx10, T.cl1, T.na_table, by show 2 < 1000; decide, nx_rd ?_⟩
    rw [pf3]
    have E12 := E11.updNew (o := .ins (cls 1) dx [("tight", V.ref t), ("others", V.ref o), ("table", V.ref tb)]) Gx fx11
    have S12 := S8.move (e10.f.trans s11) E12.s
    have hx12 : L2.upd H10 x (.ins (cls 1) dx [("tight", V.ref t), ("others", V.ref o), ("table", V.ref tb)]) x = _ := upd_same
    have ht12 : L2.upd H10 x (.ins (cls 1) dx [("tight", V.ref t), ("others", V.ref o), ("table", V.ref tb)]) t = some (.lst (TT.map V.int)) := by rw [upd_ne tx]; exact ht10
    have ho12 : L2.upd H10 x (.ins (cls 1) dx [("tight", V.ref t), ("others", V.ref o), ("table", V.ref tb)]) o = some (.lst (O.map V.int)) := by rw [upd_ne ox]; exact ho10
    have htb12 : L2.upd H10 x (.ins (cls 1) dx [("tight", V.ref t), ("others", V.ref o), ("table", V.ref tb)]) tb = some (.lst (as.map V.ref)) := by rw [upd_ne tbx]; exact htb
    generalize L2.upd H10 x (.ins (cls 1) dx [("tight", V.ref t), ("others", V.ref o), ("table", V.ref tb)]) = H12 at E12 S12 hx12 ht12 ho12 htb12 ⊢
    -- self.table.append(..)
    refine seq_rd ?_
    refine ⟨_, S12.adr rfl, x, cls 1, dx, _, .ref tb, rfl, hx12, T.cl1, T.na_table, rfl, .inl ⟨rfl, as.map V.ref, SqL.of htb12⟩, ?_⟩
    refine fo_callN (c := ⟨cls, xc, fun c d _ H => E c d H, (H12, F11, []), false⟩) rfl (fB _) _ H12 F11 _ _ S12 ?_
    have hG := I.gain (some (D.ad x))
    unfold cI_gain at hG
    rw [show gFnL 3 f_gain_line _ _ = _ from hG]
    refine ⟨_, rfl, fun g xs H13 F13 e13 hg13 fg13 ng13 rg => ?_⟩
    have hl : as.length < lim := by
      have h1 := paired_len oas
      have h2 := paired_len I.rows
      have h3 := I.len
      rw [List.length_map] at h1
      unfold lim
      omega
    refine ⟨tb, as.map V.ref, .ref g, rfl, rfl, e13.h _ _ htb12, by rw [List.length_map]; exact lt_lim hl, nx_rd ?_⟩
    have gx : g ≠ x := fun z => by subst z; rw [hx12] at ng13; cases ng13
    have gt : g ≠ t := fun z => by subst z; rw [ht12] at ng13; cases ng13
    have go : g ≠ o := fun z => by subst z; rw [ho12] at ng13; cases ng13
    have gtb : g ≠ tb := fun z => by subst z; rw [htb12] at ng13; cases ng13
    have E13 := (E12.trans e13).keep (E12.h.free ng13) hg13
    have k13 : Same F13 (L2.upd F13 g (.lst xs)) := same_upd fg13
    have hx13 := e13.h _ _ hx12
    have ht13 := e13.h _ _ ht12
    have ho13 := e13.h _ _ ho12
    have fx13 : L2.upd F13 g (.lst xs) x = none := by rw [upd_ne gx.symm]; exact e13.stays hx12 fx11
    have ft13 : L2.upd F13 g (.lst xs) t = none := by rw [upd_ne gt.symm]; exact e13.stays ht12 ft11
    have fo13 : L2.upd F13 g (.lst xs) o = none := by rw [upd_ne go.symm]; exact e13.stays ho12 fo11
    have ftb13 : L2.upd F13 g (.lst xs) tb = none := by rw [upd_ne gtb.symm]; exact e13.stays htb12 ftb11
    have rg13 : Rep K cls (L2.upd F13 g (.lst xs)) (.ref g) (iL gl) := .ls upd_same (RepL.mono k13 rg)
    have r13 := r11.mono (e13.f.trans k13)
    have s13 := S12.move (e13.f.trans k13) E13.s
    generalize L2.upd F13 g (.lst xs) = F14 at E13 k13 fx13 ft13 fo13 ftb13 rg13 r13 s13
    have E14 := E13.updNew (o := .lst (as.map V.ref ++ [.ref g])) Gtb ftb13
    have E15 := E14.keep Gtb upd_same
    have k15 : Same F14 (L2.upd F14 tb (.lst (as.map V.ref ++ [.ref g]))) := same_upd ftb13
    have hx15 : L2.upd H13 tb (.lst (as.map V.ref ++ [.ref g])) x = some (.ins (cls 1) dx [("tight", V.ref t), ("others", V.ref o), ("table", V.ref tb)]) := by rw [upd_ne tbx.symm]; exact hx13
    have ht15 : L2.upd H13 tb (.lst (as.map V.ref ++ [.ref g])) t = some (.lst (TT.map V.int)) := by rw [upd_ne tbt.symm]; exact ht13
    have ho15 : L2.upd H13 tb (.lst (as.map V.ref ++ [.ref g])) o = some (.lst (O.map V.int)) := by rw [upd_ne tbo.symm]; exact ho13
    have fx15 : L2.upd F14 tb (.lst (as.map V.ref ++ [.ref g])) x = none := by rw [upd_ne tbx.symm]; exact fx13
    have ft15 : L2.upd F14 tb (.lst (as.map V.ref ++ [.ref g])) t = none := by rw [upd_ne tbt.symm]; exact ft13
    have fo15 : L2.upd F14 tb (.lst (as.map V.ref ++ [.ref g])) o = none := by rw [upd_ne tbo.symm]; exact fo13
    have rt15 : Rep K cls (L2.upd F14 tb (.lst (as.map V.ref ++ [.ref g]))) (.ref tb) (.list ((rows ++ [gl]).map iL)) := .ls upd_same (by
      rw [List.map_append]
      have : (rows.map fun es => es.map PyData.int).map PyData.list = rows.map iL := by rw [List.map_map]; rfl
      rw [this] at r13
      exact RepL.append (r13.mono k15) (.cons (rg13.mono k15) .nil))
    have S15 := s13.move k15 E15.s
    generalize L2.upd H13 tb (.lst (as.map V.ref ++ [.ref g])) = H15 at E15 S15 hx15 ht15 ho15 ⊢
    generalize L2.upd F14 tb (.lst (as.map V.ref ++ [.ref g])) = F15 at E15 k15 S15 fx15 ft15 fo15 rt15
    -- self.scale = 1
    refine ⟨_, S15.adr rfl, x, cls 1, dx, _, rfl, hx15, T.cl1, T.na_scale, by show 3 < 1000; decide, ?_⟩
    rw [pf4]
    refine q _ F15 t o (E15.updNew Gx fx15) Ht Ho ⟨⟨dx, .ref tb, upd_same, rt15⟩, by rw [upd_ne tx]; exact ht15, by rw [upd_ne ox]; exact ho15, fx15, ft15, fo15, ot⟩
end
end K11

set_option Elab.async false
set_option linter.all false
set_option maxRecDepth 100000
namespace K11
open PySem PySem.Spec L2 Fn
abbrev st_move : Stmt := inClass (topS 27) 3
theorem sc_move : FnScope ["self", "row", "column"] ["self", "row", "column"] (defScope st_move) := ⟨rfl, rfl, rfl, by decide +kernel, rfl, by decide +kernel, by decide +kernel⟩
def spMove (K : PySem.W.Frag) (cls : Nat → Addr) : Sp := fun vs H Q _ => ∃ F x t o T O tab s tab' s', ∃ r c : Nat, vs = [.ref x, .int r, .int c] ∧ Same F H ∧ CorA K cls F H x t o T O tab s ∧ f_turned [tab, .int s, .int r, .int c] = .ok (.tuple [tab', .int s']) ∧ r < O.length ∧ c < T.length ∧
  ∀ H' F', Ext F (hide [x, t, o] H) F' H' → CorA K cls F' H' x t o (T.set c (O.getD r 0)) (O.set r (T.getD c 0)) tab' s' → Q .non H'
theorem pf5 (a b d e v : V) : putF "table" v [(("tight" : Str), a), ("others", b), ("table", d), ("scale", e)] = ([("tight", a), ("others", b), ("table", v), ("scale", e)] : List (Str × V)) := by
  rw [putF_ne (by decide +kernel), putF_ne (by decide +kernel)]
  rfl
theorem pf6 (a b d e v : V) : putF "scale" v [(("tight" : Str), a), ("others", b), ("table", d), ("scale", e)] = ([("tight", a), ("others", b), ("table", d), ("scale", v)] : List (Str × V)) := by
  rw [putF_ne (by decide +kernel), putF_ne (by decide +kernel), putF_ne (by decide +kernel)]
  rfl
theorem ixN_nat {n i : Nat} (h : i < n) : ixN n (i : Int) = some i := by
  unfold ixN
  rw [if_pos (by omega), if_pos (by omega)]
  simp
theorem atI_nat {α : Type} {xs : List α} {i : Nat} {x : α} (h : xs[i]? = some x) : atI xs (i : Int) = some x := by
  unfold atI
  rw [ixN_nat (List.getElem?_eq_some_iff.mp h).1]
  exact h
theorem map_at {T : List Int} {i : Nat} (h : i < T.length) : (T.map V.int)[i]? = some (V.int (T.getD i 0)) := by
  rw [List.getElem?_map, List.getElem?_eq_getElem h, List.getD_eq_getElem?_getD, List.getElem?_eq_getElem h]; rfl
section
variable {P : Program} {w : World} {K : PySem.W.Frag} {mg : Str → Option Value} {base : Heap} {cls xc : Nat → Addr}
theorem okm_move (T : Top K mg xc cls) (M : MethAt K (cls 1) "move" "Corner.move" st_move ["self", "row", "column"]) : OkM P w K mg base (cls 1) "move" ["self", "row", "column"] 4 (spMove K cls) := by
  refine okMS_of M sc_move (fun vs H Q E h => ?_) fun f cdv A outer s H vs Q E hr hsp => ⟨_, pss_cons (ps_asg (pe_callO (ok_turned T) hr (by decide) (by rfl) (takes_of rfl rfl rfl rfl) (pa_cons (pe_fld (pv 0) rfl) (pa_cons (pe_fld (pv 0) rfl) (pa_cons (pv 1) (pa_cons (pv 2) pa_nil))))) (pg_tup (by rfl) (pgs_cons (pg_fld (pv 0)) (pgs_cons (pg_fld (pv 0)) pgs_nil))))
      (pss_one (ps_asg (pe_tup (pa_cons (pe_ix ix_seq (pe_fld (pv 0) rfl) (pv 2) (fun _ _ => rfl)) (pa_cons (pe_ix ix_seq (pe_fld (pv 0) rfl) (pv 1) (fun _ _ => rfl)) pa_nil))) (pg_tup (by rfl) (pgs_cons (pg_sub (pe_fld (pv 0) rfl) (pv 1) set_list) (pgs_cons (pg_sub (pe_fld (pv 0) rfl) (pv 2) set_list) pgs_nil))))), ?_⟩
  · obtain ⟨F, x, t, o, TT, O, tab, s, tab', s', r, c, rfl, _⟩ := h
    rfl
  · obtain ⟨F0, x, t, o, TT, O, tab, s, tab', s', r, c, rfl, sF, C, hf, hr1, hc1, q⟩ := hsp
    obtain ⟨⟨dx, vt, hx, rt⟩, ht, ho, fx, ft, fo, ne⟩ := C
    have E0 := ext_hid0 (L := [x, t, o]) sF fun y hy => by
      rcases List.mem_cons.mp hy with z | hy
      · rw [z]; exact fx
      · rcases List.mem_cons.mp hy with z | hy
        · rw [z]; exact ft
        · rw [List.mem_singleton.mp hy]; exact fo
    have Gx : hide [x, t, o] H x = none := hide_in (by simp)
    have Gt : hide [x, t, o] H t = none := hide_in (by simp)
    have Go : hide [x, t, o] H o = none := hide_in (by simp)
    have xt : x ≠ t := fun z => by subst z; rw [hx] at ht; cases ht
    have xo : x ≠ o := fun z => by subst z; rw [hx] at ho; cases ho
    generalize hide [x, t, o] H = G at E0 Gx Gt Go q
    have l0 : (L2.start ["self", "row", "column"] [V.ref x, V.int r, V.int c])[0]? = some (some (V.ref x)) := rfl
    have l1 : (L2.start ["self", "row", "column"] [V.ref x, V.int r, V.int c])[1]? = some (some (V.int r)) := rfl
    have l2 : (L2.start ["self", "row", "column"] [V.ref x, V.int r, V.int c])[2]? = some (some (V.int c)) := rfl
    generalize L2.start ["self", "row", "column"] [V.ref x, V.int r, V.int c] = σ at l0 l1 l2 ⊢
    -- self.table, self.scale = turned(..)
    refine seq_rd ?_
    refine ⟨_, l0, x, cls 1, dx, _, vt, rfl, hx, T.cl1, T.na_table, rfl, _, l0, x, cls 1, dx, _, .int s, rfl, hx, T.cl1, T.na_scale, rfl, _, l1, _, l2, F0, [tab, .int s, .int r, .int c], sF, .cons rt (.cons (.int s) (.cons (.int r) (.cons (.int c) .nil))), rfl, ?_⟩
    rw [hf]
    intro v H1 F1 e1 r1
    have hx1 := e1.h _ _ hx
    have ht1 := e1.h _ _ ht
    have ho1 := e1.h _ _ ho
    have fx1 := e1.stays hx fx
    have ft1 := e1.stays ht ft
    have fo1 := e1.stays ho fo
    have E1 := E0.trans e1
    obtain ⟨a, xs, rfl, h2, r2, _⟩ := Rep1.tup (c := ⟨cls, xc, fun _ _ _ _ => False, (H, F0, []), false⟩) (H := H1) (.inl r1) e1.s
    cases r2 with
    | cons rv1 r2 => cases r2 with
      | cons rv2 r2 => cases r2 with
        | nil =>
          rename_i v1 v2
          cases rv2
          refine ⟨a, _, rfl, h2, rfl, ?_⟩
          refine ⟨v1, _, rfl, _, l0, x, cls 1, dx, _, rfl, hx1, T.cl1, T.na_table, by show 4 < 1000; decide, .int s', _, rfl, _, l0, x, cls 1, dx, _, rfl, upd_same, T.cl1, T.na_scale, by rw [pf5]; show 4 < 1000; decide, rfl, nx_rd ?_⟩
          rw [pf5, pf6]
          have E2 := (E1.updNew (o := .ins (cls 1) dx (corF t o v1 s)) Gx fx1).updNew (o := .ins (cls 1) dx (corF t o v1 s')) Gx fx1
          have hx2 : L2.upd (L2.upd H1 x (.ins (cls 1) dx (corF t o v1 s))) x (.ins (cls 1) dx (corF t o v1 s')) x = some (.ins (cls 1) dx (corF t o v1 s')) := upd_same
          have ht2 : L2.upd (L2.upd H1 x (.ins (cls 1) dx (corF t o v1 s))) x (.ins (cls 1) dx (corF t o v1 s')) t = some (.lst (TT.map V.int)) := by rw [upd_ne xt.symm, upd_ne xt.symm]; exact ht1
          have ho2 : L2.upd (L2.upd H1 x (.ins (cls 1) dx (corF t o v1 s))) x (.ins (cls 1) dx (corF t o v1 s')) o = some (.lst (O.map V.int)) := by rw [upd_ne xo.symm, upd_ne xo.symm]; exact ho1
          generalize L2.upd (L2.upd H1 x (.ins (cls 1) dx (corF t o v1 s))) x (.ins (cls 1) dx (corF t o v1 s')) = H2 at E2 hx2 ht2 ho2 ⊢
          -- self.others[row], self.tight[column] = ..
          refine ⟨_, l0, x, cls 1, dx, _, .ref t, rfl, hx2, T.cl1, T.na_tight, rfl, _, l2, .inl ⟨t, _, c, _, rfl, rfl, SqL.of ht2, atI_nat (map_at hc1), ?_⟩⟩
          refine ⟨_, l0, x, cls 1, dx, _, .ref o, rfl, hx2, T.cl1, T.na_others, rfl, _, l1, .inl ⟨o, _, r, _, rfl, rfl, SqL.of ho2, atI_nat (map_at hr1), ?_⟩⟩
          refine ⟨le_lim (lim_ge (by show 2 ≤ 1000; decide)), fun p hp => ?_⟩
          have px : p ≠ x := fun z => by subst z; rw [hx2] at hp; cases hp
          have pt : p ≠ t := fun z => by subst z; rw [ht2] at hp; cases hp
          have po : p ≠ o := fun z => by subst z; rw [ho2] at hp; cases hp
          have fp : F1 p = none := E2.s.free hp
          have E3 := E2.updNew (o := .tup [.int (TT.getD c 0), .int (O.getD r 0)]) (E2.h.free hp) fp
          have hp3 : L2.upd H2 p (.tup [.int (TT.getD c 0), .int (O.getD r 0)]) p = some (.tup [.int (TT.getD c 0), .int (O.getD r 0)]) := upd_same
          have hx3 : L2.upd H2 p (.tup [.int (TT.getD c 0), .int (O.getD r 0)]) x = some (.ins (cls 1) dx (corF t o v1 s')) := by rw [upd_ne px.symm]; exact hx2
          have ht3 : L2.upd H2 p (.tup [.int (TT.getD c 0), .int (O.getD r 0)]) t = some (.lst (TT.map V.int)) := by rw [upd_ne pt.symm]; exact ht2
          have ho3 : L2.upd H2 p (.tup [.int (TT.getD c 0), .int (O.getD r 0)]) o = some (.lst (O.map V.int)) := by rw [upd_ne po.symm]; exact ho2
          generalize L2.upd H2 p (.tup [.int (TT.getD c 0), .int (O.getD r 0)]) = H3 at E3 hp3 hx3 ht3 ho3 ⊢
          refine ⟨p, _, rfl, SqT.of hp3, rfl, ?_⟩
          refine ⟨_, _, rfl, _, l0, x, cls 1, dx, _, .ref o, rfl, hx3, T.cl1, T.na_others, rfl, _, l1, o, _, r, r, rfl, rfl, ho3, ixN_nat (by rw [List.length_map]; exact hr1), ?_⟩
          have E4 := E3.updNew (o := .lst ((O.map V.int).set r (.int (TT.getD c 0)))) Go fo1
          have hx4 : L2.upd H3 o (.lst ((O.map V.int).set r (.int (TT.getD c 0)))) x = some (.ins (cls 1) dx (corF t o v1 s')) := by rw [upd_ne xo]; exact hx3
          have ht4 : L2.upd H3 o (.lst ((O.map V.int).set r (.int (TT.getD c 0)))) t = some (.lst (TT.map V.int)) := by rw [upd_ne ne]; exact ht3
          have ho4 : L2.upd H3 o (.lst ((O.map V.int).set r (.int (TT.getD c 0)))) o = _ := upd_same
          generalize L2.upd H3 o (.lst ((O.map V.int).set r (.int (TT.getD c 0)))) = H4 at E4 hx4 ht4 ho4 ⊢
          refine ⟨_, _, rfl, _, l0, x, cls 1, dx, _, .ref t, rfl, hx4, T.cl1, T.na_tight, rfl, _, l2, t, _, c, c, rfl, rfl, ht4, ixN_nat (by rw [List.length_map]; exact hc1), rfl, ?_⟩
          refine q _ F1 (E4.updNew Gt ft1) ⟨⟨dx, v1, by rw [upd_ne xt]; exact hx4, rv1⟩, ?_, ?_, fx1, ft1, fo1, ne⟩
          · rw [upd_same, List.map_set]
          · rw [upd_ne ne.symm, ho4, List.map_set]
end
end K11

set_option Elab.async false
set_option linter.all false
set_option maxRecDepth 100000
/-! A corner and the tables of code objects. -/
namespace Fn
open PySem PySem.Spec L2
section
variable {K : PySem.W.Frag} {cls : Nat → Addr} {B : Hp × Hp × List (Addr × Str)} {F H F' H' F0 G : Hp} {σ : L2.St} {ρ : Rho} {a : Addr} {L : List Addr} {x t o : Addr} {T O : List Int} {tab : PyData} {s : Int}
theorem hideT_free (h : H a = none) : hideT H a = none := by unfold hideT; rw [h]
theorem noTab_over (hF : noTab F) (hL : ∀ a ∈ L, ∀ ps, H a ≠ some (.tbl ps)) : noTab (over L H F) := fun a ps e => by
  unfold over at e
  split at e
  · exact hL a ‹_› ps e
  · exact hF a ps e
theorem less_extT (s : Same F H) (hF : noTab F) (hL : ∀ a ∈ L, ∀ ps, H a ≠ some (.tbl ps)) (e : Ext (over L H F) (hideT H) F' H') : Ext F (hideT H) (less L F F') H' := by
  have e2 : over L (hideT H) F = over L H F := by
    funext a
    unfold over
    split
    · exact hideT_off (hL a ‹_›)
    · rfl
  refine less_ext (fun b u q => ?_) (by rw [e2]; exact e)
  rw [hideT_off (fun ps z => ?_)]
  · exact s _ _ q
  · rw [s _ _ q] at z
    cases z
    exact hF _ _ q
theorem CorA.noT (C : CorA K cls F H x t o T O tab s) : ∀ a ∈ [x, t, o], ∀ ps, H a ≠ some (.tbl ps) := fun a ha ps e => by
  obtain ⟨⟨dx, vt, h1, h2⟩, h3, h4, h5, h6, h7, h8⟩ := C
  rcases List.mem_cons.mp ha with z | ha
  · rw [z, h1] at e; cases e
  · rcases List.mem_cons.mp ha with z | ha
    · rw [z, h3] at e; cases e
    · rw [List.mem_singleton.mp ha, h4] at e; cases e
theorem CorA.noE (C : CorA K cls F H x t o T O tab s) : ∀ a ∈ [x, t, o], ∀ φ, H a ≠ some (.ext φ) := fun a ha ps e => by
  obtain ⟨⟨dx, vt, h1, h2⟩, h3, h4, h5, h6, h7, h8⟩ := C
  rcases List.mem_cons.mp ha with z | ha
  · rw [z, h1] at e; cases e
  · rcases List.mem_cons.mp ha with z | ha
    · rw [z, h3] at e; cases e
    · rw [List.mem_singleton.mp ha, h4] at e; cases e
theorem CorA.out (C : CorA K cls F H x t o T O tab s) : ∀ a ∈ [x, t, o], F a = none := fun a ha => by
  obtain ⟨⟨dx, vt, h1, h2⟩, h3, h4, h5, h6, h7, h8⟩ := C
  rcases List.mem_cons.mp ha with z | ha
  · rw [z]; exact h5
  · rcases List.mem_cons.mp ha with z | ha
    · rw [z]; exact h6
    · rw [List.mem_singleton.mp ha]; exact h7
theorem CorA.hid (C : CorA K cls F H x t o T O tab s) : CorA K cls F (hideT H) x t o T O tab s := by
  have n := C.noT
  obtain ⟨⟨dx, vt, h1, h2⟩, h3, h4, h5, h6, h7, h8⟩ := C
  exact ⟨⟨dx, vt, by rw [hideT_off (n x (by simp))]; exact h1, h2⟩, by rw [hideT_off (n t (by simp))]; exact h3, by rw [hideT_off (n o (by simp))]; exact h4, h5, h6, h7, h8⟩
/-- the corner stays as it is from here on -/
theorem CorA.frz (C : CorA K cls F H x t o T O tab s) (E : Ext F0 G F H) (gx : G x = none) (gt : G t = none) (go : G o = none) : ∃ F', Same F F' ∧ Ext F0 G F' H ∧ Rep K cls F' (.ref x) (D.cor T O tab s) := by
  obtain ⟨⟨dx, vt, h1, h2⟩, h3, h4, h5, h6, h7, h8⟩ := C
  have xt : x ≠ t := fun z => by subst z; rw [h1] at h3; cases h3
  have xo : x ≠ o := fun z => by subst z; rw [h1] at h4; cases h4
  have e1 := E.keep gx h1
  have s1 : Same F (L2.upd F x (.ins (cls 1) dx (corF t o vt s))) := same_upd h5
  have e2 := e1.keep gt h3
  have s2 : Same _ (L2.upd (L2.upd F x (.ins (cls 1) dx (corF t o vt s))) t (.lst (T.map V.int))) := same_upd (by rw [upd_ne xt.symm]; exact h6)
  have e3 := e2.keep go h4
  have s3 : Same _ (L2.upd (L2.upd (L2.upd F x (.ins (cls 1) dx (corF t o vt s))) t (.lst (T.map V.int))) o (.lst (O.map V.int))) := same_upd (by rw [upd_ne h8.symm, upd_ne xo.symm]; exact h7)
  have s := (s1.trans s2).trans s3
  exact ⟨_, s, e3, .ob (s3 _ _ (s2 _ _ upd_same)) (.cons (.ls (s3 _ _ upd_same) (RepL.ints T)) (.cons (.ls upd_same (RepL.ints O)) (.cons (h2.mono s) (.cons (.int _) .nil))))⟩
theorem Sim.moreF (S : Sim K cls B [] σ H F ρ) (e : Ext B.2.1 B.1 F' H) (s : Same F F') (nF : noTab B.2.1) : Sim K cls B [] σ H F' ρ where
  tb := S.tb
  ft := tabs_free S.tb e.s fun a ps q => nF a ps (e.t a ps q)
  b := e
  len := S.len
  fro := fun i d hi h => by
    obtain ⟨v, h1, h2⟩ := S.fro i d hi h
    exact ⟨v, h1, h2.mono s⟩
  ow := fun i d hi => absurd hi List.not_mem_nil
  sep := fun i j d e a hi => absurd hi List.not_mem_nil
theorem tabs_hide {T : List (Addr × Str)} (t : LamX.Tabs T H) (n : ∀ a ∈ L, ∀ ps, H a ≠ some (.tbl ps)) (m : ∀ a ∈ L, ∀ φ, H a ≠ some (.ext φ)) : LamX.Tabs T (hide L H) := fun p hp => by
  obtain ⟨ps, h1, h2, h3⟩ := t p hp
  refine ⟨ps, by rw [hide_out (fun z => n _ z _ h1)]; exact h1, h2, fun pos cv hc => ?_⟩
  obtain ⟨c, e1, e2⟩ := h3 pos cv hc
  refine ⟨c, e1, ?_⟩
  rw [hide_out (fun z => ?_)]
  · exact e2
  · unfold LamX.CodeO at e2
    exact m _ z _ e2
/-- a call has changed what stands at L -/
theorem Sim.callHide (S : Sim K cls B [] σ H F ρ) (hL : ∀ a ∈ L, B.1 a = none) (fL : ∀ a ∈ L, F a = none) (n : ∀ a ∈ L, ∀ ps, H a ≠ some (.tbl ps)) (m : ∀ a ∈ L, ∀ φ, H a ≠ some (.ext φ)) (nF : noTab B.2.1) (e : Ext F (hide L H) F' H') : Sim K cls B [] σ H' F' ρ := by
  have e1 : Ext B.2.1 B.1 F' H' := (S.b.hide (L' := L) fun a ha => ⟨hL a ha, fL a ha⟩).trans e
  have t1 : LamX.Tabs B.2.2 H' := (tabs_hide S.tb n m).ext e.h
  exact ⟨e1, S.len, fun i d hi h => by
    obtain ⟨v, h1, h2⟩ := S.fro i d hi h
    exact ⟨v, h1, h2.mono e.f⟩, fun i d hi => absurd hi List.not_mem_nil, fun i j d e a hi => absurd hi List.not_mem_nil, t1, tabs_free t1 e1.s fun a ps q => nF a ps (e1.t a ps q)⟩
/-- a new object, by its __init__ -/
theorem made_new {H1 F1 F2 H2 : Hp} {C dx : Addr} (nx : H1 x = none) (nd : H1 dx = none) (ne : dx ≠ x) (e : Ext F1 (hide [x] (L2.upd (L2.upd H1 dx (.own x)) x (.ins C dx []))) F2 H2) : Ext F1 H1 F2 H2 where
  f := e.f
  h := fun b o q => e.h b o (by
    have b1 : b ≠ x := ne_of_none q nx
    have b2 : b ≠ dx := ne_of_none q nd
    rw [hide_out (by simpa using b1), upd_ne b1, upd_ne b2]
    exact q)
  s := e.s
  n := fun a o q => (e.n a o q).imp_right fun z => by
    cases h : H1 a with
    | none => rfl
    | some u =>
      have b1 : a ≠ x := ne_of_none h nx
      have b2 : a ≠ dx := ne_of_none h nd
      rw [hide_out (by simpa using b1), upd_ne b1, upd_ne b2, h] at z
      cases z
  t := e.t
end
end Fn

set_option Elab.async false
set_option linter.all false
set_option maxRecDepth 100000
namespace K11
open PySem PySem.Spec L2 Fn
abbrev st_loose : Stmt := topS 26
abbrev lN : List Str := ["problem", "box", "corner", "row", "column"]
theorem sc_loose : FnScope lN ["problem", "box"] (defScope st_loose) := ⟨rfl, rfl, rfl, by decide +kernel, rfl, by decide +kernel, by decide +kernel⟩
def g_most : Rho → O PyData := (gTup (gConsA (gC (.str "most")) (gConsA (gTup (gConsA (gMethL 1 "numbers" 3 f_Corner_numbers (gVar 2) (gConsA (gVar 0) (gConsA (gVar 1) gNilA))) (gConsA (gFld "scale" 1 (gVar 2)) gNilA))) (gConsA (gMethL 1 "gain_weights" 1 f_Corner_gain_weights (gVar 2) gNilA) (gConsA (gFld "scale" 1 (gVar 2)) gNilA)))))
def g_none : Rho → O PyData := (gTup (gConsA (gC (.str "none")) (gConsA (gMethL 1 "none_weights" 2 f_Corner_none_weights (gVar 2) (gConsA (gVar 3) gNilA)) gNilA)))
theorem g_most_ind (a b c d e : Option PyData) : g_most [a, b, c, d, e] = g_most [a, b, c, none, none] := rfl
theorem g_none_ind (a b c d e : Option PyData) : g_none [a, b, c, d, e] = g_none [a, b, c, d, none] := rfl
def looseIt (dp db : PyData) : Nat → List Int → List Int → PyData → Int → O PyData
  | 0, _, _, _, _ => .bad
  | n + 1, T, O, tab, s => (noEx (f_missed [D.cor T O tab s])).bind fun r => match r with
    | .none => noEx (g_most [some dp, some db, some (D.cor T O tab s), none, none])
    | .int r => (noEx (f_column [D.cor T O tab s, .int r])).bind fun c => match c with
      | .none => noEx (g_none [some dp, some db, some (D.cor T O tab s), some (.int r), none])
      | .int c => (noEx (f_turned [tab, .int s, .int r, .int c])).bind fun z => match z with
        | .tuple [tab', .int s'] => if 0 ≤ r ∧ r < O.length ∧ 0 ≤ c ∧ c < T.length then looseIt dp db n (T.set c.toNat (O.getD r.toNat 0)) (O.set r.toNat (T.getD c.toNat 0)) tab' s' else .bad
        | _ => .bad
      | _ => .bad
    | _ => .bad
structure InitW where
  fi : Int
  T : List Int
  O : List Int
  Sg : List Int
  En : List Int
  rows : List (List Int)
  gl : List Int
abbrev InitW.Ok (q : InitW) (dp dt : PyData) : Prop := InitOk dp dt q.fi q.T q.O q.Sg q.En q.rows q.gl
open Classical in
noncomputable def looseO (dp db : PyData) : O PyData := (f_facts [dp, db]).bind fun dt => (listO dt).bind fun _ => if h : ∃ q : InitW, q.Ok dp dt then looseIt dp db 5000 (choose h).T (choose h).O (.list (((choose h).rows ++ [(choose h).gl]).map iL)) 1 else .bad
noncomputable def f_loose : List PyData → O PyData
  | [dp, db] => looseO dp db
  | _ => .bad
theorem noEx_noEx {α : Type} (o : O α) : noEx (noEx o) = noEx o := by cases o <;> rfl
theorem noEx_okE {α : Type} {o : O α} {z : α} (h : o = .ok z) : noEx o = .ok z := by rw [h]; rfl
section
variable {P : Program} {w : World} {K : PySem.W.Frag} {mg : Str → Option Value} {base : Heap} {cls xc : Nat → Addr} {Tt : List (Addr × Str)} {c1 P1 c2 P2 : Addr}
/-- what the class Corner comes to -/
structure CorT (K : PySem.W.Frag) (base : Heap) (mg : Str → Option Value) (cls : Nat → Addr) (Tt : List (Addr × Str)) : Prop where
  init : InitAt K (cls 1) "Corner.__init__" st_cinit ["self", "problem", "told"]
  move : MethAt K (cls 1) "move" "Corner.move" st_move ["self", "row", "column"]
  missed : ∃ c P, MethC K (cls 1) "missed_row" "Corner.missed_row" st_missed ["self"] c ∧ LamAt base mg Tt c P "Corner.missed_row.<locals>.<lambda>"
  column : ∃ c P, MethC K (cls 1) "column_for" "Corner.column_for" st_column ["self", "row"] c ∧ LamAt base mg Tt c P "Corner.column_for.<locals>.<lambda>"
theorem ok_loose (T : Top K mg xc cls) (R : CorT K base mg cls Tt) : OkTAt P w K mg base cls Tt "loose" ["problem", "box"] 2 10 (fun ds => noEx (f_loose ds)) := by
  obtain ⟨A1, A2, ⟨c1, P1, A3, L3⟩, ⟨c2, P2, A4, L4⟩⟩ := R
  refine okS_of T.d_loose sc_loose (fun vs H Q E h => ?_) fun f cdv A outer s H vs Q E hr hsp => ⟨_, pss_cons (ps_set (i := 2) sc_loose.nd rfl (by first | exact Or.inl rfl | exact Or.inr rfl) (pe_makeC (ok_cinit (xc := xc) T A1) hr (by decide) (by rfl) (passW (takes_of rfl rfl rfl rfl) rfl) (pa_cons (pv 0) (pa_cons (pe_callNO (okn_facts T) hr (by decide) (by rfl) (takes_of rfl rfl rfl rfl) (pa_cons (pv 0) (pa_cons (pv 1) pa_nil))) pa_nil))))
    (pss_one (ps_while (passes_of rfl) (pt_truth pe_bl (by intro _; rfl)) (pss_cons (ps_set (i := 3) sc_loose.nd rfl (by first | exact Or.inl rfl | exact Or.inr rfl) (pe_methO0 (okm_missed T A3 L3) T.cl1 (pv 2) hr (by decide)))
      (pss_cons (ps_if (pt_cmpR op_isN (pv 3) pe_non (nomark _)) (pss_one (ps_ret (pe_tup (pa_cons pe_str (pa_cons (pe_tup (pa_cons (pe_methO (okm_Corner_numbers T) T.cl1 (pv 2) hr (by decide) (pa_cons (pv 0) (pa_cons (pv 1) pa_nil))) (pa_cons (pe_fld (pv 2) rfl) pa_nil))) (pa_cons (pe_methO0 (okm_Corner_gain_weights T) T.cl1 (pv 2) hr (by decide)) (pa_cons (pe_fld (pv 2) rfl) pa_nil))))))) pss_nil)
      (pss_cons (ps_set (i := 4) sc_loose.nd rfl (by first | exact Or.inl rfl | exact Or.inr rfl) (pe_methO (okm_column T A4 L4) T.cl1 (pv 2) hr (by decide) (pa_cons (pv 3) pa_nil)))
      (pss_cons (ps_if (pt_cmpR op_isN (pv 4) pe_non (nomark _)) (pss_one (ps_ret (pe_tup (pa_cons pe_str (pa_cons (pe_methO (okm_Corner_none_weights T) T.cl1 (pv 2) hr (by decide) (pa_cons (pv 3) pa_nil)) pa_nil))))) pss_nil)
      (pss_one (ps_expr (pe_methO (okm_move (xc := xc) T A2) T.cl1 (pv 2) hr (by decide) (pa_cons (pv 3) (pa_cons (pv 4) pa_nil))))))))))), ?_⟩
  · obtain ⟨_, F0, ds, _, _, r, hn, _⟩ := h
    rw [r.length]; exact hn
  · obtain ⟨tb, F0, ds, sF, nF, r, hn, q⟩ := hsp
    obtain ⟨dp, db, rfl⟩ : ∃ a b, ds = [a, b] := by
      match ds, hn with
      | [a, b], _ => exact ⟨a, b, rfl⟩
    have S0 : Sim K cls (hideT H, F0, Tt) [] (L2.start lN vs) H F0 [some dp, some db, none, none, none] := sim_startT tb sF nF r
    generalize L2.start lN vs = σ at S0 ⊢
    have q : OPost (fun d => ∀ v H' F', Ext F0 (hideT H) F' H' → TF Tt H' F' → Rep K cls F' v d → Q v H') (fun _ => False) (noEx (looseO dp db)) := q
    unfold looseO at q
    cases hf : f_facts [dp, db] with
    | ex n => rw [hf] at q; exact q.elim
    | bad => rw [hf] at q; exact q.elim
    | ok dt =>
    rw [hf, O.bind_ok] at q
    cases hl : listO dt with
    | ex n => rw [hl] at q; exact q.elim
    | bad => rw [hl] at q; exact q.elim
    | ok dt' =>
    rw [hl, O.bind_ok] at q
    obtain ⟨ts, rfl⟩ : ∃ ts, dt = .list ts := by
      unfold listO at hl
      split at hl
      · exact ⟨_, rfl⟩
      · cases hl
    by_cases hq : ∃ w : InitW, w.Ok dp (.list ts)
    · rw [dif_pos hq] at q
      have hI := Classical.choose_spec hq
      generalize Classical.choose hq = I at hI q
      -- corner = Corner(problem, facts(problem, box))
      obtain ⟨v0, k0, r0⟩ := S0.val (i := 0) rfl
      obtain ⟨v1, k1, r1⟩ := S0.val (i := 1) rfl
      refine seq_rd (asg_rd ?_)
      refine ⟨v0, k0, v0, k0, v1, k1, F0, [dp, db], sF, .cons r0 (.cons r1 .nil), rfl, ?_⟩
      rw [hf]
      refine ⟨ts, rfl, fun p xs H1 F1 e1 hp1 fp1 hn1 rp1 => ?_⟩
      have e1' := e1.keep hn1 hp1
      have kp : Same F1 (L2.upd F1 p (.lst xs)) := same_upd fp1
      have rp : Rep K cls (L2.upd F1 p (.lst xs)) (.ref p) (.list ts) := .ls upd_same (RepL.mono kp rp1)
      generalize L2.upd F1 p (.lst xs) = F2 at e1' rp kp
      intro x dx nx nd ne
      refine ⟨F2, x, dx, v0, .ref p, dp, .list ts, I.fi, I.T, I.O, I.Sg, I.En, I.rows, I.gl, rfl, fun b u hb => ?_, upd_same, e1'.s.free nx, r0.mono e1'.f, rp, hI, fun H3 F3 t o e3 Ht Ho C => ⟨rfl, nx_rd ?_⟩⟩
      · have h1 := e1'.s _ _ hb
        rw [upd_ne (ne_of_none h1 nx), upd_ne (ne_of_none h1 nd)]
        exact h1
      have e4 := e1'.trans (made_new nx nd ne e3)
      have S3 : Sim K cls (hideT H, F0, Tt) [] (σ.set 2 (some (.ref x))) H3 F3 [some dp, some db, some (D.ad x), none, none] := by
        have z : Ext F0 (hideT H) F3 H3 := ⟨e4.f, fun b u hb => e4.h _ _ (hide_same _ _ hb), e4.s, fun a u ha => (e4.n a u ha).imp_right hideT_free, e4.t⟩
        have tb3 : LamX.Tabs Tt H3 := tb.ext e4.h
        have nF3 : noTab F3 := fun a ps q => nF a ps (e4.t a ps q)
        have S3 : Sim K cls (hideT H, F0, Tt) [] σ H3 F3 [some dp, some db, none, none, none] := ⟨z, S0.len, fun i d hi h => by
          obtain ⟨v, h1, h2⟩ := S0.fro i d hi h
          exact ⟨v, h1, h2.mono e4.f⟩, fun i d hi => absurd hi List.not_mem_nil, fun i j d e a hi => absurd hi List.not_mem_nil, tb3, tabs_free tb3 e4.s nF3⟩
        exact S3.setN 2 (.ad x)
      have free : ∀ {a}, (L2.upd (L2.upd H1 dx (.own x)) x (.ins (cls 1) dx [])) a = none → hideT H a = none := fun {a} h => by
        refine hideT_free (e1.h.free ?_)
        cases z : H1 a with
        | none => rfl
        | some u =>
          rw [upd_ne (ne_of_none z nx), upd_ne (ne_of_none z nd), z] at h
          cases h
      have Gx : hideT H x = none := hideT_free (e1.h.free nx)
      have Gt := free Ht
      have Go := free Ho
      have GL : ∀ a ∈ [x, t, o], hideT H a = none := fun a ha => by
        rcases List.mem_cons.mp ha with z | ha
        · rw [z]; exact Gx
        · rcases List.mem_cons.mp ha with z | ha
          · rw [z]; exact Gt
          · rw [List.mem_singleton.mp ha]; exact Go
      clear e3 e4 free
      generalize hR : (.list ((I.rows ++ [I.gl]).map iL) : PyData) = tab at C q
      generalize σ.set 2 (some (.ref x)) = σ3 at S3 ⊢
      -- the loop
      refine ⟨fun m σ4 H4 => ∃ F4 T O tab s x3 x4, Sim K cls (hideT H, F0, Tt) [] σ4 H4 F4 [some dp, some db, some (D.ad x), x3, x4] ∧ CorA K cls F4 H4 x t o T O tab s ∧ OPost (fun d => ∀ v H' F', Ext F0 (hideT H) F' H' → TF Tt H' F' → Rep K cls F' v d → Q v H') (fun _ => False) (noEx (looseIt dp db m T O tab s)), ⟨5000, F3, I.T, I.O, tab, 1, none, none, S3, C, q⟩, ?_⟩
      clear q C S3
      rintro m σ4 H4 ⟨F4, TT, O, tab, s, x3, x4, S4, C4, q⟩
      cases m with
      | zero => exact q.elim
      | succ m =>
      unfold looseIt at q
      refine ⟨true, rfl, ifT ?_⟩
      refine ⟨fun σ5 H5 => ∃ F5 T O tab s x3 x4, Sim K cls (hideT H, F0, Tt) [] σ5 H5 F5 [some dp, some db, some (D.ad x), x3, x4] ∧ CorA K cls F5 H5 x t o T O tab s ∧ OPost (fun d => ∀ v H' F', Ext F0 (hideT H) F' H' → TF Tt H' F' → Rep K cls F' v d → Q v H') (fun _ => False) (noEx (looseIt dp db m T O tab s)), fun σ5 H5 z => ⟨m, Nat.lt_succ_self _, z⟩, ?_⟩
      have nF4 : noTab F4 := fun a ps z => nF a ps (S4.b.t a ps z)
      -- row = corner.missed_row()
      cases hm : f_missed [D.cor TT O tab s] with
      | ex n => rw [hm] at q; exact q.elim
      | bad => rw [hm] at q; exact q.elim
      | ok row =>
      rw [hm] at q
      obtain ⟨dx4, vt4, hx4, rt4⟩ := C4.hx
      refine seq_rd (asg_rd ?_)
      refine ⟨_, S4.adr (i := 2) rfl, x, dx4, _, rfl, hx4, rfl, ?_⟩
      refine ⟨S4.tb, over [x, t, o] H4 F4, [D.cor TT O tab s], over_in S4.s _, noTab_over nF4 C4.noT, .cons (C4.rep S4.s) .nil, rfl, ?_⟩
      rw [hm]
      intro v5 H5 F5 e5 t5 r5
      have e5' := less_extT S4.s nF4 C4.noT e5
      have C5 := C4.hid.ext e5'
      have S5 := S4.callT hide_base e5' ⟨t5.1, fun p hp => less_none (t5.2 p hp)⟩
      generalize less [x, t, o] F4 F5 = F5' at e5' C5 S5
      rw [show noEx (Fn.O.ok row) = Fn.O.ok row from rfl, Fn.O.bind_ok] at q
      have nF5 : noTab F5' := fun a ps z => nF a ps (S5.b.t a ps z)
      split at q
      · cases r5
        have S6 : Sim K cls (hideT H, F0, Tt) [] (σ4.set 3 (some .non)) H5 F5' [some dp, some db, some (D.ad x), some .none, x4] := S5.setN 3 .non
        refine seq_rd (if_rd ((ft_test (fe_op opf_isN (fe_var (i := 3) rfl) fe_none) : FT K ⟨cls, xc, fun c d _ H => E c d H, (hideT H, F0, Tt), false⟩ [] _ (gBl (gIsN (gVar 3) (gC .none)))) _ H5 F5' _ _ S6 ?_))
        show OPost _ _ (Fn.O.ok true)
        intro H7 F7 e7
        refine ifT ?_
        obtain ⟨F8, s8, E8, rc8⟩ := (C5.ext e7).frz (S6.ext e7).b Gx Gt Go
        have S8 : Sim K cls (hideT H, F0, Tt) [] (σ4.set 3 (some .non)) H7 F8 [some dp, some db, some (D.cor TT O tab s), some .none, x4] := ((S6.ext e7).moreF E8 s8 nF).reslot 2 ((S6.ext e7).adr (i := 2) rfl) rc8
        refine (fs_ret (ol := []) (own := []) (own' := []) (fe_tup (fa_cons (fe_str "most") (fa_cons (fe_tup (fa_cons ((fo_methN (fe_var rfl) (fa_cons (fe_var rfl) (fa_cons (fe_var rfl) fa_nil))).fe gMethL_list) (fa_cons (fe_fld T.cl1 T.na_scale (fe_var rfl)) fa_nil))) (fa_cons ((fo_methN (fe_var rfl) fa_nil).fe gMethL_list) (fa_cons (fe_fld T.cl1 T.na_scale (fe_var rfl)) fa_nil))))) : FS K ⟨cls, xc, fun c d _ H => E c d H, (hideT H, F0, Tt), false⟩ [] [] [] _ (gRet g_most)) _ _ H7 F8 _ S8 ?_
        show SPost _ _ _ _ _ _ ((g_most [some dp, some db, some (D.cor TT O tab s), some .none, x4]).go .rt)
        rw [g_most_ind]
        rw [noEx_noEx] at q
        cases hg : g_most [some dp, some db, some (D.cor TT O tab s), none, none] with
        | ex n => rw [hg] at q; exact q.elim
        | bad => rw [hg] at q; exact q.elim
        | ok d => rw [hg] at q; exact q
      · rename_i r
        cases r5
        have S6 : Sim K cls (hideT H, F0, Tt) [] (σ4.set 3 (some (.int r))) H5 F5' [some dp, some db, some (D.ad x), some (.int r), x4] := S5.setN 3 (.int r)
        refine seq_rd (if_rd ((ft_test (fe_op opf_isN (fe_var (i := 3) rfl) fe_none) : FT K ⟨cls, xc, fun c d _ H => E c d H, (hideT H, F0, Tt), false⟩ [] _ (gBl (gIsN (gVar 3) (gC .none)))) _ H5 F5' _ _ S6 ?_))
        show OPost _ _ (Fn.O.ok false)
        intro H7 F7 e7
        refine ifF (next_rd (nx_rd ?_))
        have C7 := C5.ext e7
        have S7 := S6.ext e7
        have nF7 : noTab F7 := fun a ps z => nF a ps (S7.b.t a ps z)
        generalize σ4.set 3 (some (.int r)) = σ7 at S7 ⊢
        clear S6 S5 C5 S4 C4
        -- column = corner.column_for(row)
        cases hc : f_column [D.cor TT O tab s, .int r] with
        | ex n => rw [hc] at q; exact q.elim
        | bad => rw [hc] at q; exact q.elim
        | ok col =>
        rw [hc, show noEx (Fn.O.ok col) = Fn.O.ok col from rfl, Fn.O.bind_ok] at q
        obtain ⟨dx7, vt7, hx7, rt7⟩ := C7.hx
        obtain ⟨v3, k3, r3⟩ := S7.val (i := 3) rfl
        cases r3
        refine seq_rd (asg_rd ?_)
        refine ⟨_, S7.adr (i := 2) rfl, x, dx7, _, rfl, hx7, rfl, _, k3, ?_⟩
        refine ⟨S7.tb, over [x, t, o] H7 F7, [D.cor TT O tab s, .int r], over_in S7.s _, noTab_over nF7 C7.noT, .cons (C7.rep S7.s) (.cons (.int r) .nil), rfl, ?_⟩
        rw [hc]
        intro v8 H8 F8 e8 t8 r8
        have e8' := less_extT S7.s nF7 C7.noT e8
        have C8 := C7.hid.ext e8'
        have S8 := S7.callT hide_base e8' ⟨t8.1, fun p hp => less_none (t8.2 p hp)⟩
        generalize less [x, t, o] F7 F8 = F8' at e8' C8 S8
        split at q
        · cases r8
          have S9 : Sim K cls (hideT H, F0, Tt) [] (σ7.set 4 (some .non)) H8 F8' [some dp, some db, some (D.ad x), some (.int r), some .none] := S8.setN 4 .non
          refine seq_rd (if_rd ((ft_test (fe_op opf_isN (fe_var (i := 4) rfl) fe_none) : FT K ⟨cls, xc, fun c d _ H => E c d H, (hideT H, F0, Tt), false⟩ [] _ (gBl (gIsN (gVar 4) (gC .none)))) _ H8 F8' _ _ S9 ?_))
          show OPost _ _ (Fn.O.ok true)
          intro H9 F9 e9
          refine ifT ?_
          obtain ⟨F10, s10, E10, rc10⟩ := (C8.ext e9).frz (S9.ext e9).b Gx Gt Go
          have S10 : Sim K cls (hideT H, F0, Tt) [] (σ7.set 4 (some .non)) H9 F10 [some dp, some db, some (D.cor TT O tab s), some (.int r), some .none] := ((S9.ext e9).moreF E10 s10 nF).reslot 2 ((S9.ext e9).adr (i := 2) rfl) rc10
          refine (fs_ret (ol := []) (own := []) (own' := []) (fe_tup (fa_cons (fe_str "none") (fa_cons ((fo_methN (fe_var rfl) (fa_cons (fe_var rfl) fa_nil)).fe gMethL_list) fa_nil))) : FS K ⟨cls, xc, fun c d _ H => E c d H, (hideT H, F0, Tt), false⟩ [] [] [] _ (gRet g_none)) _ _ H9 F10 _ S10 ?_
          show SPost _ _ _ _ _ _ ((g_none [some dp, some db, some (D.cor TT O tab s), some (.int r), some .none]).go .rt)
          rw [g_none_ind]
          rw [noEx_noEx] at q
          cases hg : g_none [some dp, some db, some (D.cor TT O tab s), some (.int r), none] with
          | ex n => rw [hg] at q; exact q.elim
          | bad => rw [hg] at q; exact q.elim
          | ok d => rw [hg] at q; exact q
        · rename_i c
          cases r8
          have S9 : Sim K cls (hideT H, F0, Tt) [] (σ7.set 4 (some (.int c))) H8 F8' [some dp, some db, some (D.ad x), some (.int r), some (.int c)] := S8.setN 4 (.int c)
          refine seq_rd (if_rd ((ft_test (fe_op opf_isN (fe_var (i := 4) rfl) fe_none) : FT K ⟨cls, xc, fun c d _ H => E c d H, (hideT H, F0, Tt), false⟩ [] _ (gBl (gIsN (gVar 4) (gC .none)))) _ H8 F8' _ _ S9 ?_))
          show OPost _ _ (Fn.O.ok false)
          intro H9 F9 e9
          refine ifF (next_rd (nx_rd ?_))
          have C9 := C8.ext e9
          have S9 := S9.ext e9
          generalize σ7.set 4 (some (.int c)) = σ9 at S9 ⊢
          cases ht : f_turned [tab, .int s, .int r, .int c] with
          | ex n => rw [ht] at q; exact q.elim
          | bad => rw [ht] at q; exact q.elim
          | ok z =>
          rw [ht, show noEx (Fn.O.ok z) = Fn.O.ok z from rfl, Fn.O.bind_ok] at q
          split at q
          · rename_i tab' s'
            split at q
            · rename_i hb
              obtain ⟨dx9, vt9, hx9, rt9⟩ := C9.hx
              obtain ⟨v3, k3, r3⟩ := S9.val (i := 3) rfl
              cases r3
              obtain ⟨v4, k4, r4⟩ := S9.val (i := 4) rfl
              cases r4
              refine ⟨_, S9.adr (i := 2) rfl, x, dx9, _, rfl, hx9, rfl, _, k3, _, k4, ?_⟩
              have er : ((r.toNat : Nat) : Int) = r := Int.toNat_of_nonneg hb.1
              have ec : ((c.toNat : Nat) : Int) = c := Int.toNat_of_nonneg hb.2.2.1
              refine ⟨F9, x, t, o, TT, O, tab, s, tab', s', r.toNat, c.toNat, by rw [er, ec]; rfl, S9.s, C9, by rw [er, ec]; exact ht, by omega, by omega, fun H11 F11 e11 C11 => ?_⟩
              exact ⟨F11, _, _, tab', s', _, _, S9.callHide GL C9.out C9.noT C9.noE nF e11, C11, q⟩
            · exact q.elim
          · exact q.elim
        · exact q.elim
      · exact q.elim
    · rw [dif_neg hq] at q
      exact q.elim
end
end K11

set_option Elab.async false
set_option linter.all false
set_option maxRecDepth 100000
namespace K11
open PySem PySem.Spec L2 Fn
abbrev st_grown : Stmt := topS 49
theorem sc_grown : FnScope ["problem", "box", "best", "told", "_", "weights", "scale", "numbers", "divisor", "unknown", "number", "at", "below", "above"] ["problem", "box", "best"] (defScope st_grown) := ⟨rfl, rfl, rfl, by decide +kernel, rfl, by decide +kernel, by decide +kernel⟩
noncomputable def f_looseN : List PyData → O PyData := fun ds => noEx (f_loose ds)
noncomputable def g_grown (rec : List PyData → O PyData) : Rho → R :=
    (gSeq (gSet 3 (gFnC 2 f_looseN (gConsA (gVar 0) (gConsA (gVar 1) gNilA))))
    (gSeq (gIfS (gBl (gEq (gIx (gVar 3) (gC (.int 0))) (gC (.str "none")))) (gRet (gTup (gConsA (gVar 2) (gConsA (gVar 3) gNilA)))) gNext)
    (gSeq (gAsg (aTup (aCons (aName 4) (aCons (aTup (aCons (aName 7) (aCons (aName 8) aNil))) (aCons (aName 5) (aCons (aName 6) aNil))))) (gVar 3))
    (gSeq (gIfS (gAndT (gBl (gNotN (gVar 2) (gC .none))) (gBl (gLe (gFdiv (gFn 2 f_products_sum (gConsA (gFld "gain" 0 (gVar 0)) (gConsA (gVar 7) gNilA))) (gVar 8)) (gFn 2 f_gained (gConsA (gVar 0) (gConsA (gVar 2) gNilA)))))) (gRet (gTup (gConsA (gVar 2) (gConsA (gTup (gConsA (gC (.str "bound")) (gConsA (gVar 5) (gConsA (gVar 6) gNilA)))) gNilA)))) gNext)
    (gSeq (gSet 9 (gFn 2 f_broken_unknown (gConsA (gVar 7) (gConsA (gVar 8) gNilA))))
    (gSeq (gIfS (gBl (gIsN (gVar 9) (gC .none))) (gRet (gTup (gConsA (gComp [10] (aName 10) gYes (gFdiv (gVar 10) (gVar 8)) (gItA (gVar 7))) (gConsA (gTup (gConsA (gC (.str "bound")) (gConsA (gVar 5) (gConsA (gVar 6) gNilA)))) gNilA)))) gNext)
    (gSeq (gSet 11 (gFdiv (gIx (gVar 7) (gVar 9)) (gVar 8)))
    (gSeq (gAsg (aTup (aCons (aName 2) (aCons (aName 12) aNil))) (gFnC 3 rec (gConsA (gVar 0) (gConsA (gFn 3 f_box_below (gConsA (gVar 1) (gConsA (gVar 9) (gConsA (gVar 11) gNilA)))) (gConsA (gVar 2) gNilA)))))
    (gSeq (gAsg (aTup (aCons (aName 2) (aCons (aName 13) aNil))) (gFnC 3 rec (gConsA (gVar 0) (gConsA (gFn 3 f_box_above (gConsA (gVar 1) (gConsA (gVar 9) (gConsA (gVar 11) gNilA)))) (gConsA (gVar 2) gNilA)))))
    (gRet (gTup (gConsA (gVar 2) (gConsA (gTup (gConsA (gC (.str "cut")) (gConsA (gVar 9) (gConsA (gVar 11) (gConsA (gVar 12) (gConsA (gVar 13) gNilA)))))) gNilA)))))))))))))
noncomputable def f_grown : Nat → List PyData → O PyData
  | 0 => fun _ => .bad
  | n + 1 => fun ds => noEx (fnG 14 (g_grown (f_grown n)) ds)
abbrev st_solved : Stmt := topS 48
theorem sc_solved : FnScope ["problem"] ["problem"] (defScope st_solved) := ⟨rfl, rfl, rfl, by decide +kernel, rfl, by decide +kernel, by decide +kernel⟩
noncomputable def g_solved (rec : List PyData → O PyData) : Rho → R :=
    (gRet (gFnC 3 rec (gConsA (gVar 0) (gConsA (gFnL 1 f_whole_box (gConsA (gVar 0) gNilA)) (gConsA (gC .none) gNilA)))))
noncomputable def f_solved (n : Nat) : List PyData → O PyData := fun ds => noEx (fnG 1 (g_solved (f_grown n)) ds)
section
variable {P : Program} {w : World} {K : PySem.W.Frag} {mg : Str → Option Value} {base : Heap} {cls xc : Nat → Addr} {Tt : List (Addr × Str)}
theorem ok_grown (T : Top K mg xc cls) (R : CorT K base mg cls Tt) : ∀ n, OkTAt P w K mg base cls Tt "grown" ["problem", "box", "best"] 3 (n + 11) (f_grown n)
  | 0 => by
    obtain ⟨f, fd, F, m, b⟩ := T.d_grown
    refine ⟨f, fd, F.okX sc_grown (fun vs H Q E h => ?_) (fun cdv A outer s H vs Q E hr hsp => ?_), m, F.kp, b⟩
    · obtain ⟨_, F0, ds, _, _, r, hn, _⟩ := h
      rw [r.length]; exact hn
    · obtain ⟨_, F0, ds, _, _, r, hn, q⟩ := hsp
      exact q.elim
  | n + 1 => okTAt_of (xc := xc) (k := n + 11) T.d_grown sc_grown (g_grown (f_grown n)) [] fun f cdv A outer s H E F0 hF hr => ⟨_, (pss_cons (ps_set (i := 3) sc_grown.nd rfl (by first | exact Or.inl rfl | exact Or.inr rfl) (pe_callTO (ok_loose T R) hr (by omega) (by rfl) (takes_of rfl rfl rfl rfl) (pa_cons (pv 0) (pa_cons (pv 1) pa_nil))))
      (pss_cons (ps_if (pt_cmpR (op_eqAll hr.units) (pe_ix ix_seq (pv 3) pe_int (fun _ _ => rfl)) pe_str (nomark _)) (pss_one (ps_ret (pe_tup (pa_cons (pv 2) (pa_cons (pv 3) pa_nil))))) pss_nil)
      (pss_cons (ps_asg (pv 3) (pg_tup (by rfl) (pgs_cons (pg_name (i := 4) sc_grown.nd rfl (by first | exact Or.inl rfl | exact Or.inr rfl)) (pgs_cons (pg_tup (by rfl) (pgs_cons (pg_name (i := 7) sc_grown.nd rfl (by first | exact Or.inl rfl | exact Or.inr rfl)) (pgs_cons (pg_name (i := 8) sc_grown.nd rfl (by first | exact Or.inl rfl | exact Or.inr rfl)) pgs_nil))) (pgs_cons (pg_name (i := 5) sc_grown.nd rfl (by first | exact Or.inl rfl | exact Or.inr rfl)) (pgs_cons (pg_name (i := 6) sc_grown.nd rfl (by first | exact Or.inl rfl | exact Or.inr rfl)) pgs_nil))))))
      (pss_cons (ps_if (PW.pt (pw_and (pt_cmpR op_notN (pv 2) pe_non (nomark _)) (pw_and1 (pt_cmpR op_le (pe_op op_fdivW (pe_callO (ok_products_sum T) hr (by omega) (by rfl) (takes_of rfl rfl rfl rfl) (pa_cons (pe_fld (pv 0) rfl) (pa_cons (pv 7) pa_nil))) (pv 8)) (pe_callO (ok_gained T) hr (by omega) (by rfl) (takes_of rfl rfl rfl rfl) (pa_cons (pv 0) (pa_cons (pv 2) pa_nil))) (nomark _))))) (pss_one (ps_ret (pe_tup (pa_cons (pv 2) (pa_cons (pe_tup (pa_cons pe_str (pa_cons (pv 5) (pa_cons (pv 6) pa_nil)))) pa_nil))))) pss_nil)
      (pss_cons (ps_set (i := 9) sc_grown.nd rfl (by first | exact Or.inl rfl | exact Or.inr rfl) (pe_callO (ok_broken_unknown T) hr (by omega) (by rfl) (takes_of rfl rfl rfl rfl) (pa_cons (pv 7) (pa_cons (pv 8) pa_nil))))
      (pss_cons (ps_if (pt_cmpR op_isN (pv 9) pe_non (nomark _)) (pss_one (ps_ret (pe_tup (pa_cons (pe_lc (own := [("number", 10)]) rfl sc_grown.nd (pi_any (pv 7)) (blkOk_by (N := ["problem", "box", "best", "told", "_", "weights", "scale", "numbers", "divisor", "unknown", "number", "at", "below", "above"]) (sc := defScope st_grown) (own := [("number", 10)]) (by decide +kernel)) (fun _ _ _ _ _ => (pg_name (i := 10) sc_grown.nd rfl (by first | exact Or.inl rfl | exact Or.inr rfl))) (fun _ _ _ _ _ => pts_nil) (fun _ _ _ _ _ => (pe_op op_fdivW (pv 10) (pv 8)))) (pa_cons (pe_tup (pa_cons pe_str (pa_cons (pv 5) (pa_cons (pv 6) pa_nil)))) pa_nil))))) pss_nil)
      (pss_cons (ps_set (i := 11) sc_grown.nd rfl (by first | exact Or.inl rfl | exact Or.inr rfl) (pe_op op_fdivW (pe_ix ix_seq (pv 7) (pv 9) (fun _ _ => rfl)) (pv 8)))
      (pss_cons (ps_asg (pe_callTO (ok_grown T R n) hr (by omega) (by rfl) (takes_of rfl rfl rfl rfl) (pa_cons (pv 0) (pa_cons (pe_callO (ok_box_below T) hr (by omega) (by rfl) (takes_of rfl rfl rfl rfl) (pa_cons (pv 1) (pa_cons (pv 9) (pa_cons (pv 11) pa_nil)))) (pa_cons (pv 2) pa_nil)))) (pg_tup (by rfl) (pgs_cons (pg_name (i := 2) sc_grown.nd rfl (by first | exact Or.inl rfl | exact Or.inr rfl)) (pgs_cons (pg_name (i := 12) sc_grown.nd rfl (by first | exact Or.inl rfl | exact Or.inr rfl)) pgs_nil))))
      (pss_cons (ps_asg (pe_callTO (ok_grown T R n) hr (by omega) (by rfl) (takes_of rfl rfl rfl rfl) (pa_cons (pv 0) (pa_cons (pe_callO (ok_box_above T) hr (by omega) (by rfl) (takes_of rfl rfl rfl rfl) (pa_cons (pv 1) (pa_cons (pv 9) (pa_cons (pv 11) pa_nil)))) (pa_cons (pv 2) pa_nil)))) (pg_tup (by rfl) (pgs_cons (pg_name (i := 2) sc_grown.nd rfl (by first | exact Or.inl rfl | exact Or.inr rfl)) (pgs_cons (pg_name (i := 13) sc_grown.nd rfl (by first | exact Or.inl rfl | exact Or.inr rfl)) pgs_nil))))
      (pss_one (ps_ret (pe_tup (pa_cons (pv 2) (pa_cons (pe_tup (pa_cons pe_str (pa_cons (pv 9) (pa_cons (pv 11) (pa_cons (pv 12) (pa_cons (pv 13) pa_nil)))))) pa_nil)))))))))))))),
    (fs_seq (own1 := []) (fx_set (fx_callC hide_base hF (FA.fx (fa_cons (fe_var rfl) (fa_cons (fe_var rfl) fa_nil)))) rfl)
      (fs_seq (own1 := []) (fs_if (own' := []) (ft_test (fe_op opf_eq (fe_op opf_ix (fe_var rfl) (fe_int 0)) (fe_str "none"))) (fs_ret (fe_tup (fa_cons (fe_var rfl) (fa_cons (fe_var rfl) fa_nil)))) fs_next)
      (fs_seq (own1 := []) (fs_asg (fe_var rfl) (fg_tup (fgs_cons (fg_name rfl) (fgs_cons (fg_tup (fgs_cons (fg_name rfl) (fgs_cons (fg_name rfl) fgs_nil)) (aCons_len (aCons_len aNil_len aName_ex) aName_ex)) (fgs_cons (fg_name rfl) (fgs_cons (fg_name rfl) fgs_nil)))) (aCons_len (aCons_len (aCons_len (aCons_len aNil_len aName_ex) aName_ex) (aTup_ex (aCons_ex aName_ex (aCons_ex aName_ex aNil_ex)))) aName_ex)) (aTup_ex (aCons_ex aName_ex (aCons_ex (aTup_ex (aCons_ex aName_ex (aCons_ex aName_ex aNil_ex))) (aCons_ex aName_ex (aCons_ex aName_ex aNil_ex))))))
      (fs_seq (own1 := []) (fs_if (own' := []) (ft_and (ft_test (fe_op opf_notN (fe_var rfl) fe_none)) (ft_test (fe_op opf_le (fe_op opf_fdiv (fe_call rfl (fa_cons (fe_fld T.cl0 T.na_gain (fe_var rfl)) (fa_cons (fe_var rfl) fa_nil))) (fe_var rfl)) (fe_call rfl (fa_cons (fe_var rfl) (fa_cons (fe_var rfl) fa_nil)))))) (fs_ret (fe_tup (fa_cons (fe_var rfl) (fa_cons (fe_tup (fa_cons (fe_str "bound") (fa_cons (fe_var rfl) (fa_cons (fe_var rfl) fa_nil)))) fa_nil)))) fs_next)
      (fs_seq (own1 := []) (fs_set (fe_call rfl (fa_cons (fe_var rfl) (fa_cons (fe_var rfl) fa_nil))) rfl)
      (fs_seq (own1 := []) (fs_if (own' := []) (ft_test (fe_op opf_isN (fe_var rfl) fe_none)) (fs_ret (fe_tup (fa_cons (fe_comp (vs := [10]) (fi_any (fe_var rfl)) (fc_name rfl rfl) aName_ex ft_yes (fe_op opf_fdiv (fe_var rfl) (fe_var rfl))) (fa_cons (fe_tup (fa_cons (fe_str "bound") (fa_cons (fe_var rfl) (fa_cons (fe_var rfl) fa_nil)))) fa_nil)))) fs_next)
      (fs_seq (own1 := []) (fs_set (fe_op opf_fdiv (fe_op opf_ix (fe_var rfl) (fe_var rfl)) (fe_var rfl)) rfl)
      (fs_seq (own1 := []) (fx_asg (fx_callC hide_base hF (FA.fx (fa_cons (fe_var rfl) (fa_cons (fe_call rfl (fa_cons (fe_var rfl) (fa_cons (fe_var rfl) (fa_cons (fe_var rfl) fa_nil)))) (fa_cons (fe_var rfl) fa_nil))))) (fg_tup (fgs_cons (fg_name rfl) (fgs_cons (fg_name rfl) fgs_nil)) (aCons_len (aCons_len aNil_len aName_ex) aName_ex)) (aTup_ex (aCons_ex aName_ex (aCons_ex aName_ex aNil_ex))))
      (fs_seq (own1 := []) (fx_asg (fx_callC hide_base hF (FA.fx (fa_cons (fe_var rfl) (fa_cons (fe_call rfl (fa_cons (fe_var rfl) (fa_cons (fe_var rfl) (fa_cons (fe_var rfl) fa_nil)))) (fa_cons (fe_var rfl) fa_nil))))) (fg_tup (fgs_cons (fg_name rfl) (fgs_cons (fg_name rfl) fgs_nil)) (aCons_len (aCons_len aNil_len aName_ex) aName_ex)) (aTup_ex (aCons_ex aName_ex (aCons_ex aName_ex aNil_ex))))
      (fs_ret (fe_tup (fa_cons (fe_var rfl) (fa_cons (fe_tup (fa_cons (fe_str "cut") (fa_cons (fe_var rfl) (fa_cons (fe_var rfl) (fa_cons (fe_var rfl) (fa_cons (fe_var rfl) fa_nil)))))) fa_nil)))))))))))))⟩
theorem ok_solved (T : Top K mg xc cls) (R : CorT K base mg cls Tt) (n : Nat) : OkTAt P w K mg base cls Tt "solved" ["problem"] 1 (n + 12) (f_solved n) :=
  okTAt_of (xc := xc) (k := n + 11) T.d_solved sc_solved (g_solved (f_grown n)) [] fun f cdv A outer s H E F0 hF hr => ⟨_, (pss_one (ps_ret (pe_callTO (ok_grown T R n) hr (by omega) (by rfl) (takes_of rfl rfl rfl rfl) (pa_cons (pv 0) (pa_cons (pe_callNO (okn_whole_box T) hr (by omega) (by rfl) (takes_of rfl rfl rfl rfl) (pa_cons (pv 0) pa_nil)) (pa_cons pe_non pa_nil)))))),
    (fx_ret (fx_callC hide_base hF (FA.fx (fa_cons (fe_var rfl) (fa_cons ((fo_callN rfl (fa_cons (fe_var rfl) fa_nil)).fe gFnL_list) (fa_cons fe_none fa_nil))))))⟩
end
end K11

set_option Elab.async false
set_option linter.all false
set_option maxRecDepth 100000
/-! The law's own defs that ask solved. -/
namespace K11
open PySem PySem.Spec L2 Fn
abbrev st_init : Stmt := inClass (topS 36) 0
theorem sc_pinit : FnScope ["self", "tops", "rows", "gain"] ["self", "tops", "rows", "gain"] (defScope st_init) := ⟨rfl, rfl, rfl, by decide +kernel, rfl, by decide +kernel, by decide +kernel⟩
section
variable {P : Program} {w : World} {K : PySem.W.Frag} {mg : Str → Option Value} {base : Heap} {cls xc : Nat → Addr} {Tt : List (Addr × Str)}
theorem mk_Problem (T : Top K mg xc cls) {f : Addr} {fd : FuncData} (F : Fun K "__init__" "Problem.__init__" st_init f fd) (M : Mk K (cls 0) f) (b : Binds K fd ["self", "tops", "rows", "gain"] []) : MkAt P w K mg base cls xc 8 f_is_problem :=
  ⟨f, fd, init_ok F sc_pinit T.cl0 T.na_tops T.na_rows T.na_gain fun cdv A outer s H E hr =>
    pss_cons (ps_if (pt_not (pt_truth (pe_callO (ok_is_problem T) hr (by decide) (by rfl) (takes_of rfl rfl rfl rfl) (pa_cons (pv 1) (pa_cons (pv 2) (pa_cons (pv 3) pa_nil)))) (by intro _; rfl))) (pss_one (ps_raiseO rfl (takes_of rfl rfl rfl rfl) T.e_BadProblem (by rfl))) pss_nil)
      (pss_cons (ps_fld (pv 0) (pe_callTy call_list_of (by rfl) T.n_list bt_list (pa_cons (pv 1) pa_nil)) rfl)
      (pss_cons (ps_fld (pv 0) (pe_callTy call_list_of (by rfl) T.n_list bt_list (pa_cons (pv 2) pa_nil)) rfl)
      (pss_one (ps_fld (pv 0) (pe_callTy call_list_of (by rfl) T.n_list bt_list (pa_cons (pv 3) pa_nil)) rfl)))), M, T.mc_Problem, b⟩
end
abbrev st__law_gain_of : Stmt := topS 65
theorem sc__law_gain_of : FnScope ["_law_tops_here", "_law_rows_here", "_law_gain_here", "_law_found", "_law_number_here"] ["_law_tops_here", "_law_rows_here", "_law_gain_here"] (defScope st__law_gain_of) := ⟨rfl, rfl, rfl, by decide +kernel, rfl, by decide +kernel, by decide +kernel⟩

noncomputable def g__law_gain_of_1 : Rho → R := (gSet 3 (gFnC 1 (f_solved 64) (gConsA (gMake f_is_problem (gConsA (gListOf (gConsA (gVar 0) gNilA)) (gConsA (gListOf (gConsA (gVar 1) gNilA)) (gConsA (gListOf (gConsA (gVar 2) gNilA)) gNilA)))) gNilA)))
noncomputable def g__law_gain_of_2 : Rho → R := (gIfS (gOrT (gNotT (gTru (gIsi "tuple" (gVar 3)))) (gBl (gNe (gB bLen (gConsA (gVar 3) gNilA)) (gC (.int 2))))) (gRet (gC (.str ""))) gNext)
noncomputable def g__law_gain_of_3 : Rho → R := (gIfS (gBl (gIsN (gIx (gVar 3) (gC (.int 0))) (gC .none))) (gRet (gC .none)) gNext)
noncomputable def g__law_gain_of_4 : Rho → R := (gIfS (gOrT (gNotT (gTru (gIsi "list" (gIx (gVar 3) (gC (.int 0)))))) (gBl (gNe (gB bLen (gConsA (gIx (gVar 3) (gC (.int 0))) gNilA)) (gB bLen (gConsA (gVar 0) gNilA))))) (gRet (gC (.str ""))) gNext)
noncomputable def g__law_gain_of_5 : Rho → R := (gIfS (gOrT (gBl (gNe (gComp [4] (aName 4) (gNotT (gTru (gFn 1 f__law_whole (gConsA (gVar 4) gNilA)))) (gVar 4) (gItA (gIx (gVar 3) (gC (.int 0))))) (gLst gNilA))) (gNotT (gTru (gFn 3 f__law_meets (gConsA (gVar 0) (gConsA (gVar 1) (gConsA (gIx (gVar 3) (gC (.int 0))) gNilA))))))) (gRet (gC (.str ""))) gNext)
noncomputable def g__law_gain_of_6 : Rho → R := (gRet (gFn 2 f__law_sum (gConsA (gVar 2) (gConsA (gIx (gVar 3) (gC (.int 0))) gNilA))))
noncomputable def g__law_gain_of : Rho → R :=
    (gSeq g__law_gain_of_1
    (gSeq g__law_gain_of_2
    (gSeq g__law_gain_of_3
    (gSeq g__law_gain_of_4
    (gSeq g__law_gain_of_5
    g__law_gain_of_6)))))
noncomputable def f__law_gain_of : List PyData → O PyData := fun ds => noEx (fnG 5 g__law_gain_of ds)
theorem ok__law_gain_of {P : Program} {w : World} {K : PySem.W.Frag} {mg : Str → Option Value} {base : Heap} {cls xc : Nat → Addr} {Tt : List (Addr × Str)} (T : Top K mg xc cls) (R : CorT K base mg cls Tt) (mk : MkAt P w K mg base cls xc 8 f_is_problem) : OkTAt P w K mg base cls Tt "_law_gain_of" ["_law_tops_here", "_law_rows_here", "_law_gain_here"] 3 79 f__law_gain_of :=
  okTAt_of (xc := xc) (k := 78) T.d__law_gain_of sc__law_gain_of g__law_gain_of [] fun f cdv A outer s H E F0 hF hr => ⟨_, (pss_cons (ps_set (i := 3) sc__law_gain_of.nd rfl (by first | exact Or.inl rfl | exact Or.inr rfl) (pe_callTO (ok_solved T R 64) hr (by decide) (by rfl) (takes_of rfl rfl rfl rfl) (pa_cons (pe_makeO mk hr (by decide) (by rfl) (passW (takes_of rfl rfl rfl rfl) rfl) (pa_cons (pe_callTy call_list_of (by rfl) T.n_list bt_list (pa_cons (pv 0) pa_nil)) (pa_cons (pe_callTy call_list_of (by rfl) T.n_list bt_list (pa_cons (pv 1) pa_nil)) (pa_cons (pe_callTy call_list_of (by rfl) T.n_list bt_list (pa_cons (pv 2) pa_nil)) pa_nil)))) pa_nil)))
      (pss_cons (ps_if (PW.pt (pw_or (pt_not (pt_truth (pe_callB call_isi (by rfl) T.n_isinstance bt_isinstance (pa_cons (pv 3) (pa_cons (pe_bltn (v := .ty "tuple") (by rfl) T.n_tuple bt_tuple rfl) pa_nil))) (by intro _; rfl))) (pw_or1 (pt_cmpR (op_neAll hr.units) (pe_callB call_len (by rfl) T.n_len bt_len (pa_cons (pv 3) pa_nil)) pe_int (nomark _))))) (pss_one (ps_ret pe_str)) pss_nil)
      (pss_cons (ps_if (pt_cmpR op_isN (pe_ix ix_seq (pv 3) pe_int (fun _ _ => rfl)) pe_non (nomark _)) (pss_one (ps_ret pe_non)) pss_nil)
      (pss_cons (ps_if (PW.pt (pw_or (pt_not (pt_truth (pe_callB call_isi (by rfl) T.n_isinstance bt_isinstance (pa_cons (pe_ix ix_seq (pv 3) pe_int (fun _ _ => rfl)) (pa_cons (pe_bltn (v := .ty "list") (by rfl) T.n_list bt_list rfl) pa_nil))) (by intro _; rfl))) (pw_or1 (pt_cmpR (op_neAll hr.units) (pe_callB call_len (by rfl) T.n_len bt_len (pa_cons (pe_ix ix_seq (pv 3) pe_int (fun _ _ => rfl)) pa_nil)) (pe_callB call_len (by rfl) T.n_len bt_len (pa_cons (pv 0) pa_nil)) (nomark _))))) (pss_one (ps_ret pe_str)) pss_nil)
      (pss_cons (ps_if (PW.pt (pw_or (pt_cmpR (op_neAll hr.units) (pe_lc (own := [("_law_number_here", 4)]) rfl sc__law_gain_of.nd (pi_any (pe_ix ix_seq (pv 3) pe_int (fun _ _ => rfl))) (blkOk_by (N := ["_law_tops_here", "_law_rows_here", "_law_gain_here", "_law_found", "_law_number_here"]) (sc := defScope st__law_gain_of) (own := [("_law_number_here", 4)]) (by decide +kernel)) (fun _ _ _ _ _ => (pg_name (i := 4) sc__law_gain_of.nd rfl (by first | exact Or.inl rfl | exact Or.inr rfl))) (fun _ _ _ _ _ => (pts_one (pt_not (pt_truth (pe_callO (ok__law_whole T) hr (by decide) (by rfl) takes0 (pa_cons (pv 4) pa_nil)) (by intro _; rfl))))) (fun _ _ _ _ _ => (pv 4))) (pe_lst pa_nil) (nomark _)) (pw_or1 (pt_not (pt_truth (pe_callO (ok__law_meets T) hr (by decide) (by rfl) (takes_of rfl rfl rfl rfl) (pa_cons (pv 0) (pa_cons (pv 1) (pa_cons (pe_ix ix_seq (pv 3) pe_int (fun _ _ => rfl)) pa_nil)))) (by intro _; rfl)))))) (pss_one (ps_ret pe_str)) pss_nil)
      (pss_one (ps_ret (pe_callO (ok__law_sum T) hr (by decide) (by rfl) (takes_of rfl rfl rfl rfl) (pa_cons (pv 2) (pa_cons (pe_ix ix_seq (pv 3) pe_int (fun _ _ => rfl)) pa_nil)))))))))),
    (fs_seq (own1 := []) (fx_set (fx_callC hide_base hF (FA.fx (fa_cons (fe_make rfl (fa_cons (fe_listOf (fa_cons (fe_var rfl) fa_nil)) (fa_cons (fe_listOf (fa_cons (fe_var rfl) fa_nil)) (fa_cons (fe_listOf (fa_cons (fe_var rfl) fa_nil)) fa_nil)))) fa_nil))) rfl)
      (fs_seq (own1 := []) (fs_if (own' := []) (ft_or (ft_not (ft_truth (fe_isi kit_tuple (fe_var rfl)))) (ft_test (fe_op opf_ne (fe_callB cf_len (fa_cons (fe_var rfl) fa_nil)) (fe_int 2)))) (fs_ret (fe_str "")) fs_next)
      (fs_seq (own1 := []) (fs_if (own' := []) (ft_test (fe_op opf_isN (fe_op opf_ix (fe_var rfl) (fe_int 0)) fe_none)) (fs_ret fe_none) fs_next)
      (fs_seq (own1 := []) (fs_if (own' := []) (ft_or (ft_not (ft_truth (fe_isi kit_list (fe_op opf_ix (fe_var rfl) (fe_int 0))))) (ft_test (fe_op opf_ne (fe_callB cf_len (fa_cons (fe_op opf_ix (fe_var rfl) (fe_int 0)) fa_nil)) (fe_callB cf_len (fa_cons (fe_var rfl) fa_nil))))) (fs_ret (fe_str "")) fs_next)
      (fs_seq (own1 := []) (fs_if (own' := []) (ft_or (ft_test (fe_op opf_ne (fe_comp (vs := [4]) (fi_any (fe_op opf_ix (fe_var rfl) (fe_int 0))) (fc_name rfl rfl) aName_ex (ft_not (ft_truth (fe_call rfl (fa_cons (fe_var rfl) fa_nil)))) (fe_var rfl)) (fe_lst fa_nil))) (ft_not (ft_truth (fe_call rfl (fa_cons (fe_var rfl) (fa_cons (fe_var rfl) (fa_cons (fe_op opf_ix (fe_var rfl) (fe_int 0)) fa_nil))))))) (fs_ret (fe_str "")) fs_next)
      (fs_ret (fe_call rfl (fa_cons (fe_var rfl) (fa_cons (fe_op opf_ix (fe_var rfl) (fe_int 0)) fa_nil)))))))))⟩
abbrev st_law : Stmt := topS 66
abbrev lawN : List Str := ["_law_script", "_law_tops_here", "_law_rows_here", "_law_gain_here", "_law_cell", "_law_unknown", "_law_at", "_law_numbers", "_law_k", "_law_below", "_law_above", "_law_whole_here", "_law_parts", "_law_number_here"]
theorem sc_law : FnScope lawN ["_law_script"] (defScope st_law) := ⟨rfl, rfl, rfl, by decide +kernel, rfl, by decide +kernel, by decide +kernel⟩
def c_law_1 : Rho → O PyData :=
    (gComp [8] (aName 8) gYes (gB bInt (gConsA (gEq (gVar 8) (gVar 5)) gNilA)) (gRng1 (gConsA (gB bLen (gConsA (gVar 1) gNilA)) gNilA)))
def c_law_2 : Rho → O PyData :=
    (gComp [13] (aName 13) (gBl (gNotN (gVar 13) (gC .none))) (gVar 13) (gItA (gLst (gConsA (gVar 9) (gConsA (gVar 10) gNilA)))))
noncomputable def gl_1 : Rho → R := (gSet 1 (gFn 1 f__law_tops (gConsA (gVar 0) gNilA)))
noncomputable def gl_2 : Rho → R := (gSet 2 (gSl (gFn 1 f__law_rows (gConsA (gVar 0) gNilA)) gNoP (gPart (gC (.int 5)))))
noncomputable def gl_3 : Rho → R := (gSet 3 (gFn 1 f__law_gain (gConsA (gVar 0) gNilA)))
noncomputable def gl_4 : Rho → R := (gSet 4 (gMod (gFn 2 f__law_cell_at (gConsA (gVar 0) (gConsA (gC (.int 31)) gNilA))) (gPow (gC (.int 10)) (gC (.int 9)))))
noncomputable def gl_5 : Rho → R := (gSet 5 (gMod (gVar 4) (gB bLen (gConsA (gVar 1) gNilA))))
noncomputable def gl_6 : Rho → R := (gSet 6 (gSub' (gMod (gFdiv (gVar 4) (gC (.int 3))) (gAdd (gIx (gVar 1) (gVar 5)) (gC (.int 2)))) (gC (.int 1))))
noncomputable def gl_7 : Rho → R := (gSet 7 c_law_1)
noncomputable def gl_8 : Rho → R := (gSet 9 (gFnC 3 f__law_gain_of (gConsA (gVar 1) (gConsA (gAdd (gVar 2) (gLst (gConsA (gTup (gConsA (gB bTup (gConsA (gVar 7) gNilA)) (gConsA (gC (.str "most")) (gConsA (gVar 6) gNilA)))) gNilA))) (gConsA (gVar 3) gNilA)))))
noncomputable def gl_9 : Rho → R := (gSet 10 (gFnC 3 f__law_gain_of (gConsA (gVar 1) (gConsA (gAdd (gVar 2) (gLst (gConsA (gTup (gConsA (gB bTup (gConsA (gVar 7) gNilA)) (gConsA (gC (.str "least")) (gConsA (gAdd (gVar 6) (gC (.int 1))) gNilA)))) gNilA))) (gConsA (gVar 3) gNilA)))))
noncomputable def gl_10 : Rho → R := (gSet 11 (gFnC 3 f__law_gain_of (gConsA (gVar 1) (gConsA (gVar 2) (gConsA (gVar 3) gNilA)))))
noncomputable def gl_11 : Rho → R := (gIfS (gOrT (gBl (gEq (gVar 9) (gC (.str "")))) (gOrT (gBl (gEq (gVar 10) (gC (.str "")))) (gBl (gEq (gVar 11) (gC (.str "")))))) (gRet (gC (.bool false))) gNext)
noncomputable def gl_12 : Rho → R := (gSet 12 c_law_2)
noncomputable def gl_13 : Rho → R := (gIfS (gBl (gEq (gVar 12) (gLst gNilA))) (gRet (gIsN (gVar 11) (gC .none))) gNext)
noncomputable def gl_14 : Rho → R := (gRet (gAndV (gNotN (gVar 11) (gC .none)) (gEq (gVar 11) (gB bMax (gConsA (gVar 12) gNilA)))))
noncomputable def g_law : Rho → R :=
    (gSeq gl_1
    (gSeq gl_2
    (gSeq gl_3
    (gSeq gl_4
    (gSeq gl_5
    (gSeq gl_6
    (gSeq gl_7
    (gSeq gl_8
    (gSeq gl_9
    (gSeq gl_10
    (gSeq gl_11
    (gSeq gl_12
    (gSeq gl_13
    gl_14)))))))))))))
section
variable {P : Program} {w : World} {K : PySem.W.Frag} {mg : Str → Option Value} {base : Heap} {cls xc : Nat → Addr} {Tt : List (Addr × Str)}
/-- a law, where tables of code objects stand -/
def spLawT (K : PySem.W.Frag) (Tt : List (Addr × Str)) : Sp := fun vs H Q _ => ∃ (a : Addr) (ns : List Int), vs = [.ref a] ∧ SqL K H a (ns.map V.int) ∧ ns.length ≤ 63 ∧ LamX.Tabs Tt H ∧ ∀ H', Q (.bl true) H'
theorem sql_hide {H : Hp} {a : Addr} {xs : List V} (h : SqL K H a xs) : SqL K (hideT H) a xs := by
  rcases h with (h | ⟨o, h⟩) | h
  · exact .inl (.inl (by rw [hideT_off (fun ps z => by rw [h] at z; cases z)]; exact h))
  · exact .inl (.inr ⟨o, by rw [hideT_off (fun ps z => by rw [h] at z; cases z)]; exact h⟩)
  · exact .inr h
theorem law_ok (T : Top K mg xc cls) (R : CorT K base mg cls Tt) (mk : MkAt P w K mg base cls xc 8 f_is_problem) {f : Addr} {fd : FuncData} (F : Fun K "law" "law" st_law f fd) (hg : ∀ ns : List Int, ns.length ≤ 63 → fnG lawN.length g_law [D.ro (ns.map PyData.int)] = .ok (.bool true)) : FnOk P w K mg base (L2.CX P w) 80 f fd ["_law_script"] (spLawT K Tt) := by
  have key : ∀ (cdv : Value) (A : Around) (outer : List Env) (s : Shared) (H : Hp) (E : XK) (F0 : Hp), noTab F0 → Room 79 (A.deeper (PyProof.Rows.envOfC "law" (defScope st_law) s.heap.objs.size f cdv)) →
      ∃ t, PSs (cxOf (L2.CX P w) P w K mg base lawN "law" (defScope st_law) f cdv A outer s H E) (defBody st_law) t ∧ FS K ⟨cls, xc, fun cl d _ H' => E cl d H', (hideT H, F0, Tt), false⟩ [] [] [] t g_law := fun cdv A outer s H E F0 hF hr => ⟨_, (pss_cons (ps_set (i := 1) sc_law.nd rfl (by first | exact Or.inl rfl | exact Or.inr rfl) (pe_callO (ok__law_tops T) hr (by decide) (by rfl) (takes_of rfl rfl rfl rfl) (pa_cons (pv 0) pa_nil)))
      (pss_cons (ps_set (i := 2) sc_law.nd rfl (by first | exact Or.inl rfl | exact Or.inr rfl) (pe_slice sl_all (pe_callO (ok__law_rows T) hr (by decide) (by rfl) (takes_of rfl rfl rfl rfl) (pa_cons (pv 0) pa_nil)) po_none (po_some pe_int)))
      (pss_cons (ps_set (i := 3) sc_law.nd rfl (by first | exact Or.inl rfl | exact Or.inr rfl) (pe_callO (ok__law_gain T) hr (by decide) (by rfl) (takes_of rfl rfl rfl rfl) (pa_cons (pv 0) pa_nil)))
      (pss_cons (ps_set (i := 4) sc_law.nd rfl (by first | exact Or.inl rfl | exact Or.inr rfl) (pe_op op_mod (pe_callO (ok__law_cell_at T) hr (by decide) (by rfl) (takes_of rfl rfl rfl rfl) (pa_cons (pv 0) (pa_cons pe_int pa_nil))) (pe_op op_pow pe_int pe_int)))
      (pss_cons (ps_set (i := 5) sc_law.nd rfl (by first | exact Or.inl rfl | exact Or.inr rfl) (pe_op op_mod (pv 4) (pe_callB call_len (by rfl) T.n_len bt_len (pa_cons (pv 1) pa_nil))))
      (pss_cons (ps_set (i := 6) sc_law.nd rfl (by first | exact Or.inl rfl | exact Or.inr rfl) (pe_op op_sub (pe_op op_mod (pe_op op_fdivW (pv 4) pe_int) (pe_op op_addAll (pe_ix ix_seq (pv 1) (pv 5) (fun _ _ => rfl)) pe_int)) pe_int))
      (pss_cons (ps_setLc (i := 7) (own := [("_law_k", 8)]) rfl sc_law.nd rfl rfl (sw_true rfl rfl rfl (by decide +kernel)) (pi_range1 (by rfl) T.n_range (pa_cons (pe_callB call_len (by rfl) T.n_len bt_len (pa_cons (pv 1) pa_nil)) pa_nil)) (blkOk_by (N := ["_law_script", "_law_tops_here", "_law_rows_here", "_law_gain_here", "_law_cell", "_law_unknown", "_law_at", "_law_numbers", "_law_k", "_law_below", "_law_above", "_law_whole_here", "_law_parts", "_law_number_here"]) (sc := defScope st_law) (own := [("_law_k", 8)]) (by decide +kernel)) (fun _ _ _ _ _ => (pg_name (i := 8) sc_law.nd rfl (by first | exact Or.inl rfl | exact Or.inr rfl))) (fun _ _ _ _ _ => pts_nil) (fun _ _ _ _ _ => (pe_callTy cr_intAll (by rfl) T.n_int bt_int (pa_cons (pe_cmpR (op_eqAll hr.units) (pv 8) (pv 5) (nomark _)) pa_nil))))
      (pss_cons (ps_set (i := 9) sc_law.nd rfl (by first | exact Or.inl rfl | exact Or.inr rfl) (pe_callTO (ok__law_gain_of T R mk) hr (by decide) (by rfl) (takes_of rfl rfl rfl rfl) (pa_cons (pv 1) (pa_cons (pe_op op_addAll (pv 2) (pe_lst (pa_cons (pe_tup (pa_cons (pe_callTy call_tuple_of (by rfl) T.n_tuple bt_tuple (pa_cons (pv 7) pa_nil)) (pa_cons pe_str (pa_cons (pv 6) pa_nil)))) pa_nil))) (pa_cons (pv 3) pa_nil)))))
      (pss_cons (ps_set (i := 10) sc_law.nd rfl (by first | exact Or.inl rfl | exact Or.inr rfl) (pe_callTO (ok__law_gain_of T R mk) hr (by decide) (by rfl) (takes_of rfl rfl rfl rfl) (pa_cons (pv 1) (pa_cons (pe_op op_addAll (pv 2) (pe_lst (pa_cons (pe_tup (pa_cons (pe_callTy call_tuple_of (by rfl) T.n_tuple bt_tuple (pa_cons (pv 7) pa_nil)) (pa_cons pe_str (pa_cons (pe_op op_addAll (pv 6) pe_int) pa_nil)))) pa_nil))) (pa_cons (pv 3) pa_nil)))))
      (pss_cons (ps_set (i := 11) sc_law.nd rfl (by first | exact Or.inl rfl | exact Or.inr rfl) (pe_callTO (ok__law_gain_of T R mk) hr (by decide) (by rfl) (takes_of rfl rfl rfl rfl) (pa_cons (pv 1) (pa_cons (pv 2) (pa_cons (pv 3) pa_nil)))))
      (pss_cons (ps_if (PW.pt (pw_or (pt_cmpR (op_eqAll hr.units) (pv 9) pe_str (nomark _)) (pw_or (pt_cmpR (op_eqAll hr.units) (pv 10) pe_str (nomark _)) (pw_or1 (pt_cmpR (op_eqAll hr.units) (pv 11) pe_str (nomark _)))))) (pss_one (ps_ret pe_bl)) pss_nil)
      (pss_cons (ps_setLc (i := 12) (own := [("_law_number_here", 13)]) rfl sc_law.nd rfl rfl (sw_true rfl rfl rfl (by decide +kernel)) (pi_any (pe_lst (pa_cons (pv 9) (pa_cons (pv 10) pa_nil)))) (blkOk_by (N := ["_law_script", "_law_tops_here", "_law_rows_here", "_law_gain_here", "_law_cell", "_law_unknown", "_law_at", "_law_numbers", "_law_k", "_law_below", "_law_above", "_law_whole_here", "_law_parts", "_law_number_here"]) (sc := defScope st_law) (own := [("_law_number_here", 13)]) (by decide +kernel)) (fun _ _ _ _ _ => (pg_name (i := 13) sc_law.nd rfl (by first | exact Or.inl rfl | exact Or.inr rfl))) (fun _ _ _ _ _ => (pts_one (pt_cmpR op_notN (pv 13) pe_non (nomark _)))) (fun _ _ _ _ _ => (pv 13)))
      (pss_cons (ps_if (pt_cmpR (op_eqAll hr.units) (pv 12) (pe_lst pa_nil) (nomark _)) (pss_one (ps_ret (pe_cmpR op_isN (pv 11) pe_non (nomark _)))) pss_nil)
      (pss_one (ps_ret (pe_and (pe_cmpR op_notN (pv 11) pe_non (nomark _)) (pe_one (pe_cmpR (op_eqAll hr.units) (pv 11) (pe_callB (cr_maxAll rfl) (by rfl) T.n_max bt_max (pa_cons (pv 12) pa_nil)) (nomark _))))))))))))))))))),
    (fs_seq (own1 := []) (fs_set (fe_call rfl (fa_cons (fe_var rfl) fa_nil)) rfl)
      (fs_seq (own1 := []) (fs_set (fe_slice (fe_call rfl (fa_cons (fe_var rfl) fa_nil)) fp_none (fp_some (fe_int 5))) rfl)
      (fs_seq (own1 := []) (fs_set (fe_call rfl (fa_cons (fe_var rfl) fa_nil)) rfl)
      (fs_seq (own1 := []) (fs_set (fe_op opf_mod (fe_call rfl (fa_cons (fe_var rfl) (fa_cons (fe_int 31) fa_nil))) (fe_op opf_pow (fe_int 10) (fe_int 9))) rfl)
      (fs_seq (own1 := []) (fs_set (fe_op opf_mod (fe_var rfl) (fe_callB cf_len (fa_cons (fe_var rfl) fa_nil))) rfl)
      (fs_seq (own1 := []) (fs_set (fe_op opf_sub (fe_op opf_mod (fe_op opf_fdiv (fe_var rfl) (fe_int 3)) (fe_op opf_add (fe_op opf_ix (fe_var rfl) (fe_var rfl)) (fe_int 2))) (fe_int 1)) rfl)
      (fs_seq (own1 := []) (fs_set (fe_comp (vs := [8]) (fi_range1 (fa_cons (fe_callB cf_len (fa_cons (fe_var rfl) fa_nil)) fa_nil)) (fc_name rfl rfl) aName_ex ft_yes (fe_callB cf_int (fa_cons (fe_op opf_eq (fe_var rfl) (fe_var rfl)) fa_nil))) rfl)
      (fs_seq (own1 := []) (fx_set (fx_callC hide_base hF (FA.fx (fa_cons (fe_var rfl) (fa_cons (fe_op opf_add (fe_var rfl) (fe_lst (fa_cons (fe_tup (fa_cons (fe_callB cf_tup (fa_cons (fe_var rfl) fa_nil)) (fa_cons (fe_str "most") (fa_cons (fe_var rfl) fa_nil)))) fa_nil))) (fa_cons (fe_var rfl) fa_nil))))) rfl)
      (fs_seq (own1 := []) (fx_set (fx_callC hide_base hF (FA.fx (fa_cons (fe_var rfl) (fa_cons (fe_op opf_add (fe_var rfl) (fe_lst (fa_cons (fe_tup (fa_cons (fe_callB cf_tup (fa_cons (fe_var rfl) fa_nil)) (fa_cons (fe_str "least") (fa_cons (fe_op opf_add (fe_var rfl) (fe_int 1)) fa_nil)))) fa_nil))) (fa_cons (fe_var rfl) fa_nil))))) rfl)
      (fs_seq (own1 := []) (fx_set (fx_callC hide_base hF (FA.fx (fa_cons (fe_var rfl) (fa_cons (fe_var rfl) (fa_cons (fe_var rfl) fa_nil))))) rfl)
      (fs_seq (own1 := []) (fs_if (own' := []) (ft_or (ft_test (fe_op opf_eq (fe_var rfl) (fe_str ""))) (ft_or (ft_test (fe_op opf_eq (fe_var rfl) (fe_str ""))) (ft_test (fe_op opf_eq (fe_var rfl) (fe_str ""))))) (fs_ret (fe_bool false)) fs_next)
      (fs_seq (own1 := []) (fs_set (fe_comp (vs := [13]) (fi_any (fe_lst (fa_cons (fe_var rfl) (fa_cons (fe_var rfl) fa_nil)))) (fc_name rfl rfl) aName_ex (ft_test (fe_op opf_notN (fe_var rfl) fe_none)) (fe_var rfl)) rfl)
      (fs_seq (own1 := []) (fs_if (own' := []) (ft_test (fe_op opf_eq (fe_var rfl) (fe_lst fa_nil))) (fs_ret (fe_op opf_isN (fe_var rfl) fe_none)) fs_next)
      (fs_ret (fe_and (fe_op opf_notN (fe_var rfl) fe_none) (fe_op opf_eq (fe_var rfl) (fe_callB cf_max (fa_cons (fe_var rfl) fa_nil))))))))))))))))))⟩
  refine F.okX sc_law (fun vs H Q E h => ?_) (fun cdv A outer s H vs Q E hr hsp => ?_)
  · obtain ⟨a, ns, rfl, _⟩ := h
    rfl
  · obtain ⟨a, ns, rfl, hS, hl, tb, q⟩ := hsp
    have nF : noTab (hideT H) := hide_base
    obtain ⟨t, ht, hf⟩ := key cdv A outer s H E (hideT H) nF hr
    have r0 : RepL K cls (hideT H) [V.ref a] [D.ro (ns.map PyData.int)] := .cons (.ro (sql_hide hS) (repL_ints ns)) .nil
    refine ⟨t, ht, hf _ _ H (hideT H) (rho0 lawN.length [D.ro (ns.map PyData.int)]) (sim_startT tb hide_same nF r0) ?_⟩
    have q1 := hg ns hl
    unfold fnG at q1
    cases e : g_law (rho0 lawN.length [D.ro (ns.map PyData.int)]) with
    | nx ρ' => rw [e] at q1; cases q1
    | rt d =>
      rw [e] at q1
      cases q1
      intro v H' F' _ _ r
      cases r
      exact q H'
    | ex n => rw [e] at q1; cases q1
    | bk ρ' => rw [e] at q1; cases q1
    | ct ρ' => rw [e] at q1; cases q1
    | bad => rw [e] at q1; cases q1
end
end K11

set_option Elab.async false
set_option linter.all false
set_option maxRecDepth 100000
namespace K11
open PySem PySem.Spec L2 Fn
def cell (ns : List Int) (k : Int) : Int := ((if ns = [] then 0 else ns.getD (k % ns.length).toNat 0) + 17 * k) * 48271 % 1000003
theorem cell_ge (ns : List Int) (k : Int) : 0 ≤ cell ns k := Int.emod_nonneg _ (by decide)
theorem cell_lt (ns : List Int) (k : Int) : cell ns k < 1000003 := Int.emod_lt_of_pos _ (by decide)
abbrev scr (ns : List Int) : PyData := D.ro (ns.map PyData.int)
theorem cell_ok (ns : List Int) (k : Int) (hk : 0 ≤ k) : f__law_cell_at [scr ns, .int k] = .ok (.int (cell ns k)) := by
  have e : rho0 3 [scr ns, PyData.int k] = [some (scr ns), some (.int k), none] := rfl
  unfold f__law_cell_at fnG
  rw [e]
  unfold g__law_cell_at cell
  by_cases h : ns = []
  · subst h
    simp [mulOk_l, mulOk_r]
  · have hl : (0 : Int) < ns.length := by
      have := List.length_pos_iff.mpr h
      omega
    have h1 : 0 ≤ k % (ns.length : Int) := Int.emod_nonneg _ (by omega)
    have h2 : k % (ns.length : Int) < ns.length := Int.emod_lt_of_pos _ hl
    have h4 : dIx (scr ns) (.int (k % ns.length)) = .ok (.int (ns.getD (k % ns.length).toNat 0)) := dIx_r _ _ (by rw [atI_map, atI_getD 0 h1 h2]; rfl)
    have hl' : 0 < ns.length := List.length_pos_iff.mpr h
    simp [mulOk_l, mulOk_r, h4, hl', h, -List.getD_eq_getElem?_getD]
def num (c kind : Int) : Int := if kind = 0 then c % 7 - 3 else if kind = 1 then c % 101 - 50 else if c / 11 % 6 = 5 then -2 - c % 11 else 2 + c % 11
theorem num_ok (c kind : Int) : f__law_number [.int c, .int kind] = .ok (.int (num c kind)) := by
  have e : rho0 2 [PyData.int c, PyData.int kind] = [some (.int c), some (.int kind)] := rfl
  unfold f__law_number fnG
  rw [e]
  unfold g__law_number num
  by_cases h0 : kind = 0
  · simp [h0]
  · by_cases h1 : kind = 1
    · simp [h1]
    · have l11 : Nat.log2 11 < 9000 := by decide
      by_cases h2 : c / 11 % 6 = 5
      · simp [h0, h1, h2, l11]
      · simp [h0, h1, h2, l11]
theorem num_bd (c kind : Int) (hc : 0 ≤ c) : -50 ≤ num c kind ∧ num c kind ≤ 50 := by
  unfold num
  split
  · omega
  · split
    · omega
    · split <;> omega

def many (ns : List Int) : Nat := if cell ns 0 % 4 = 0 then 1 else if cell ns 0 % 4 = 1 then 2 else 3
theorem many_bd (ns : List Int) : 1 ≤ many ns ∧ many ns ≤ 3 := by
  unfold many
  split
  · omega
  · split <;> omega
theorem many_ok (ns : List Int) : dIx (.list [.int 1, .int 2, .int 3, .int 3]) (.int (cell ns 0 % 4)) = .ok (.int (many ns : Nat)) := by
  unfold many
  have h : cell ns 0 % 4 = 0 ∨ cell ns 0 % 4 = 1 ∨ cell ns 0 % 4 = 2 ∨ cell ns 0 % 4 = 3 := by omega
  rcases h with h | h | h | h <;> rw [h] <;> rfl
def bd (lo hi : Int) (t : Int) : Prop := lo ≤ t ∧ t ≤ hi
end K11

set_option Elab.async false
set_option linter.all false
set_option maxRecDepth 100000
namespace K11
open PySem PySem.Spec L2 Fn
/-! ### the program's own looks -/
def isInt : PyData → Bool
  | .int _ => true
  | _ => false
/-- a thing of a known kind, no instance -/
def plain0 : PyData → Bool
  | .dict _ => false
  | _ => true
theorem is_whole_ok {d : PyData} (h : plain0 d = true) : f_is_whole [d] = .ok (.bool (isInt d)) := by
  have e : rho0 1 [d] = [some d] := rfl
  unfold f_is_whole fnG
  rw [e]
  unfold g_is_whole
  cases d with
  | dict _ => cases h
  | _ => simp [isInt]
def inB (lo hi : Int) : PyData → Bool
  | .int i => decide (lo ≤ i) && decide (i ≤ hi)
  | _ => false
theorem is_within_ok {d : PyData} (lo hi : Int) (h : plain0 d = true) : f_is_within [d, .int lo, .int hi] = .ok (.bool (inB lo hi d)) := by
  have e : rho0 3 [d, .int lo, .int hi] = [some d, some (.int lo), some (.int hi)] := rfl
  unfold f_is_within fnG
  rw [e]
  unfold g_is_within
  have := is_whole_ok h
  cases d with
  | dict _ => cases h
  | int i =>
    by_cases h1 : lo ≤ i
    · simp [this, isInt, inB, h1]
    · simp [this, isInt, inB, h1]
  | _ => simp [this, isInt, inB]
theorem are_within_ok {s : PyData} {ds : List PyData} (lo hi : Int) (hs : s = .list ds ∨ s = .tuple ds) (hn : ds.length ≤ lim) (h : ∀ d ∈ ds, plain0 d = true) : f_are_within [s, .int lo, .int hi] = .ok (.bool (ds.all (inB lo hi))) := by
  have e : rho0 4 [s, .int lo, .int hi] = [some s, some (.int lo), some (.int hi), none] := rfl
  unfold f_are_within fnG
  rw [e]
  unfold g_are_within
  have hc := comp_map (vs := [3]) (i := 3) (E := (gFn 3 f_is_within (gConsA (gVar 3) (gConsA (gVar 1) (gConsA (gVar 2) gNilA))))) (gi := (gItA (gVar 0))) (ρ := [some s, some (.int lo), some (.int hi), none]) (ds := ds) (fun d => .bool (inB lo hi d))
    (by rcases hs with rfl | rfl <;> simp) hn (fun d hd => by simp [is_within_ok lo hi (h d hd)])
  simp [hc, bAll_map]
theorem are_tops_l {ds : List PyData} (hn : ds.length ≤ lim) (h : ∀ d ∈ ds, plain0 d = true) : f_are_tops [.list ds] = .ok (.bool (decide (1 ≤ ds.length ∧ ds.length ≤ 3) && ds.all (inB 0 20))) := by
  have e : rho0 1 [PyData.list ds] = [some (.list ds)] := rfl
  unfold f_are_tops fnG
  rw [e]
  unfold g_are_tops
  have := are_within_ok 0 20 (.inl rfl) hn h
  by_cases h1 : 1 ≤ ds.length
  · by_cases h2 : ds.length ≤ 3
    · have h1' : (1 : Int) ≤ ds.length := by omega
      have h2' : (ds.length : Int) ≤ 3 := by omega
      simp [this, h1', h2', h1, h2]
    · have h1' : (1 : Int) ≤ ds.length := by omega
      have h2' : ¬ (ds.length : Int) ≤ 3 := by omega
      simp [h1', h2', h2]
  · have h1' : ¬ (1 : Int) ≤ ds.length := by omega
    simp [h1', h1]
theorem are_tops_t {ds : List PyData} : f_are_tops [.tuple ds] = .ok (.bool false) := by
  have e : rho0 1 [PyData.tuple ds] = [some (.tuple ds)] := rfl
  unfold f_are_tops fnG
  rw [e]
  unfold g_are_tops
  simp
theorem are_numbers_ok {s : PyData} {ds : List PyData} (n : Nat) (hs : s = .list ds ∨ s = .tuple ds) (hn : ds.length ≤ lim) (h : ∀ d ∈ ds, plain0 d = true) : f_are_numbers [s, .int n] = .ok (.bool (decide (ds.length = n) && ds.all (inB (-50) 50))) := by
  have e : rho0 2 [s, .int n] = [some s, some (.int n)] := rfl
  unfold f_are_numbers fnG
  rw [e]
  unfold g_are_numbers
  have := are_within_ok (-50) 50 hs hn h
  have hl : bLen [s] = .ok (.int ds.length) := by rcases hs with rfl | rfl <;> rfl
  by_cases h1 : ds.length = n
  · have h1' : (ds.length : Int) = n := by omega
    simp [this, hl, h1]
  · have h1' : ¬ (ds.length : Int) = n := by omega
    simp [hl, h1, h1']
theorem is_gain_l {ds : List PyData} (n : Nat) (hn : ds.length ≤ lim) (h : ∀ d ∈ ds, plain0 d = true) : f_is_gain [.list ds, .int n] = .ok (.bool (decide (ds.length = n) && ds.all (inB (-50) 50))) := by
  have e : rho0 2 [PyData.list ds, .int n] = [some (.list ds), some (.int n)] := rfl
  unfold f_is_gain fnG
  rw [e]
  unfold g_is_gain
  have := are_numbers_ok n (.inl rfl) hn h
  simp [this]
theorem is_gain_t {ds : List PyData} (n : Nat) : f_is_gain [.tuple ds, .int n] = .ok (.bool false) := by
  have e : rho0 2 [PyData.tuple ds, .int n] = [some (.tuple ds), some (.int n)] := rfl
  unfold f_is_gain fnG
  rw [e]
  unfold g_is_gain
  simp
def isWordB : PyData → Bool
  | .str z => z == "most" || z == "least"
  | _ => false
theorem is_word_ok {d : PyData} (h : plain0 d = true) : f_is_word [d] = .ok (.bool (isWordB d)) := by
  have e : rho0 1 [d] = [some d] := rfl
  unfold f_is_word fnG
  rw [e]
  unfold g_is_word
  cases d with
  | dict _ => cases h
  | str z =>
    have e2 : dIn false (.str z) (.tuple [.str "most", .str "least"]) = .ok (.bool (("most" : Str) == z || ("least" : Str) == z)) := by
      show O.ok (PyData.bool (negB false (([PyData.str "most", PyData.str "least"] : List PyData).any fun e => PyData.eqv e (.str z)))) = _
      show O.ok (PyData.bool ((("most" : Str) == z) || ((("least" : Str) == z) || false))) = _
      rw [Bool.or_false]
    simp [e2, isWordB, Bool.beq_comm (a := z)]
  | _ => simp [isWordB]
def isRowB (n : Nat) : PyData → Bool
  | .tuple [.tuple ns, w, b] => (decide (ns.length = n) && ns.all (inB (-50) 50)) && (isWordB w && inB (-2000) 2000 b)
  | _ => false
theorem row_list (xs : List PyData) (n : Nat) : f_is_row [.list xs, .int n] = .ok (.bool (isRowB n (.list xs))) := by
  have e : rho0 5 [PyData.list xs, .int n] = [some (.list xs), some (.int n), none, none, none] := rfl
  unfold f_is_row fnG
  rw [e]
  unfold g_is_row
  simp [isRowB]
theorem row_2 (x y : PyData) (n : Nat) : f_is_row [.tuple [x, y], .int n] = .ok (.bool (isRowB n (.tuple [x, y]))) := by
  have e : rho0 5 [PyData.tuple [x, y], .int n] = [some (.tuple [x, y]), some (.int n), none, none, none] := rfl
  unfold f_is_row fnG
  rw [e]
  unfold g_is_row
  simp [isRowB]
theorem row_3l (xs : List PyData) (w b : PyData) (n : Nat) : f_is_row [.tuple [.list xs, w, b], .int n] = .ok (.bool (isRowB n (.tuple [.list xs, w, b]))) := by
  have e : rho0 5 [PyData.tuple [.list xs, w, b], .int n] = [some (.tuple [.list xs, w, b]), some (.int n), none, none, none] := rfl
  unfold f_is_row fnG
  rw [e]
  unfold g_is_row
  simp [isRowB]
theorem row_3t {xs : List PyData} {w b : PyData} (n : Nat) (hn : xs.length ≤ lim) (h : ∀ d ∈ xs, plain0 d = true) (hw : plain0 w = true) (hb : plain0 b = true) : f_is_row [.tuple [.tuple xs, w, b], .int n] = .ok (.bool (isRowB n (.tuple [.tuple xs, w, b]))) := by
  have e : rho0 5 [PyData.tuple [.tuple xs, w, b], .int n] = [some (.tuple [.tuple xs, w, b]), some (.int n), none, none, none] := rfl
  unfold f_is_row fnG
  rw [e]
  unfold g_is_row
  have h1 := are_numbers_ok n (.inr rfl) hn h
  have h2 := is_word_ok hw
  have h3 := is_within_ok (-2000) 2000 hb
  show _ = O.ok (PyData.bool ((decide (xs.length = n) && xs.all (inB (-50) 50)) && (isWordB w && inB (-2000) 2000 b)))
  generalize (decide (xs.length = n) && xs.all (inB (-50) 50)) = k1 at h1 ⊢
  generalize isWordB w = k2 at h2 ⊢
  generalize inB (-2000) 2000 b = k3 at h3 ⊢
  cases k1 <;> cases k2 <;> simp [h1, h2, h3]
theorem are_rows_l {rs : List PyData} {n : Nat} (p : PyData → Bool) (hn : rs.length ≤ lim) (h : ∀ r ∈ rs, f_is_row [r, .int n] = .ok (.bool (p r))) : f_are_rows [.list rs, .int n] = .ok (.bool (decide (rs.length ≤ 6) && rs.all p)) := by
  have e : rho0 3 [PyData.list rs, .int n] = [some (.list rs), some (.int n), none] := rfl
  unfold f_are_rows fnG
  rw [e]
  unfold g_are_rows
  have hc := comp_map (vs := [2]) (i := 2) (E := (gFn 2 f_is_row (gConsA (gVar 2) (gConsA (gVar 1) gNilA)))) (gi := (gItA (gVar 0))) (ρ := [some (.list rs), some (.int n), none]) (ds := rs) (fun d => .bool (p d))
    (by simp) hn (fun d hd => by simp [h d hd])
  by_cases h1 : rs.length ≤ 6
  · have h1' : ¬ (6 : Int) < rs.length := by omega
    simp [hc, bAll_map, h1, h1']
  · have h1' : (6 : Int) < rs.length := by omega
    simp [h1, h1']
theorem are_rows_t {rs : List PyData} (n : Nat) : f_are_rows [.tuple rs, .int n] = .ok (.bool false) := by
  have e : rho0 3 [PyData.tuple rs, .int n] = [some (.tuple rs), some (.int n), none] := rfl
  unfold f_are_rows fnG
  rw [e]
  unfold g_are_rows
  simp
/-- the three looks, one behind the other -/
theorem is_problem_1 {t r g : PyData} (h : f_are_tops [t] = .ok (.bool false)) : f_is_problem [t, r, g] = .ok (.bool false) := by
  have e : rho0 3 [t, r, g] = [some t, some r, some g] := rfl
  unfold f_is_problem fnG
  rw [e]
  unfold g_is_problem
  simp [h]
theorem is_problem_2 {ts : List PyData} {r g : PyData} {k l : Bool} (h : f_are_tops [.list ts] = .ok (.bool true)) (h2 : f_are_rows [r, .int ts.length] = .ok (.bool k)) (h3 : f_is_gain [g, .int ts.length] = .ok (.bool l)) : f_is_problem [.list ts, r, g] = .ok (.bool (k && l)) := by
  have e : rho0 3 [PyData.list ts, r, g] = [some (.list ts), some r, some g] := rfl
  unfold f_is_problem fnG
  rw [e]
  unfold g_is_problem
  cases k <;> simp [h, h2, h3]
end K11

set_option Elab.async false
set_option linter.all false
set_option maxRecDepth 100000
namespace K11
open PySem PySem.Spec L2 Fn
def kind (ns : List Int) : Int := cell ns 0 / 4 % 4
theorem kind_ok (ns : List Int) : f__law_kind [scr ns] = .ok (.int (kind ns)) := by
  have e : rho0 1 [scr ns] = [some (scr ns)] := rfl
  unfold f__law_kind fnG
  rw [e]
  unfold g__law_kind kind
  have l1 : Nat.log2 4 < 9000 := by decide
  simp [cell_ok ns 0 (by decide), l1]
theorem gain_ok (ns : List Int) : ∃ gs : List Int, f__law_gain [scr ns] = .ok (.list (gs.map PyData.int)) ∧ gs.length = many ns ∧ ∀ g ∈ gs, bd (-50) 50 g := by
  have e : rho0 3 [scr ns] = [some (scr ns), none, none] := rfl
  unfold f__law_gain fnG
  rw [e]
  unfold g__law_gain
  obtain ⟨m1, m3⟩ := many_bd ns
  have hm := many_ok ns
  have c0 := cell_ok ns 0 (by decide)
  generalize hmm : many ns = m at *
  obtain ⟨gs, t1, t2, t3⟩ := comp_ints (vs := [2]) (i := 2) (E := (gFn 2 f__law_number (gConsA (gFn 2 f__law_cell_at (gConsA (gVar 0) (gConsA (gAdd (gC (.int 4)) (gVar 2)) gNilA))) (gConsA (gFn 1 f__law_kind (gConsA (gVar 0) gNilA)) gNilA)))) (gi := (gRng1 (gConsA (gVar 1) gNilA)))
    (ρ := [some (scr ns), some (.int m), none]) (ds := rangeD 0 m) (bd (-50) 50) (by simp [rng1_nat (show m ≤ 1000 by omega)]) (by rw [rangeD_length]; exact lim_ge (by omega)) (fun d hd => by
      obtain ⟨i, hi, rfl⟩ := rangeD_mem hd
      refine ⟨num (cell ns (4 + i)) (kind ns), ?_, num_bd _ _ (cell_ge _ _)⟩
      simp [cell_ok ns (4 + i) (by omega), kind_ok, num_ok])
  rw [rangeD_length] at t2
  exact ⟨gs, by simp [c0, hm, t1], t2, t3⟩
def bnd (c kind : Int) : Int := if kind = 0 then c % 41 - 12 else if kind = 1 ∧ c % 4 = 0 then c / 4 % 4001 - 2000 else if kind = 1 then c / 4 % 401 - 200 else 2 + c % 31
theorem bnd_ok (c kind : Int) : f__law_bound [.int c, .int kind] = .ok (.int (bnd c kind)) := by
  have e : rho0 2 [PyData.int c, PyData.int kind] = [some (.int c), some (.int kind)] := rfl
  unfold f__law_bound fnG
  rw [e]
  unfold g__law_bound bnd
  have l1 : Nat.log2 4 < 9000 := by decide
  by_cases h0 : kind = 0
  · simp [h0]
  · by_cases h1 : kind = 1
    · by_cases h2 : c % 4 = 0
      · simp [h1, h2, l1]
      · simp [h1, h2, l1]
    · simp [h0, h1]
theorem bnd_bd (c kind : Int) (hc : 0 ≤ c) : bd (-2000) 2000 (bnd c kind) := by
  unfold bd bnd
  split
  · omega
  · split
    · omega
    · split <;> omega
def IsRow (n : Nat) (d : PyData) : Prop := ∃ (ks : List Int) (w : Str) (b : Int), d = .tuple [.tuple (ks.map PyData.int), .str w, .int b] ∧ ks.length = n ∧ (∀ k ∈ ks, bd (-50) 50 k) ∧ (w = "most" ∨ w = "least") ∧ bd (-2000) 2000 b
theorem rows_ok (ns : List Int) : ∃ rs : List PyData, f__law_rows [scr ns] = .ok (.list rs) ∧ rs.length ≤ 6 ∧ ∀ r ∈ rs, IsRow (many ns) r := by
  have e : rho0 11 [scr ns] = [some (scr ns), none, none, none, none, none, none, none, none, none, none] := rfl
  unfold f__law_rows fnG
  rw [e]
  unfold g__law_rows
  obtain ⟨m1, m3⟩ := many_bd ns
  have hm := many_ok ns
  have c0 := cell_ok ns 0 (by decide)
  generalize hmm : many ns = m at *
  have hk := kind_ok ns
  have hc0 := cell_ge ns 0
  have l1 : Nat.log2 4 < 9000 := by decide
  have l2 : Nat.log2 16 < 9000 := by decide
  have l3 : Nat.log2 96 < 9000 := by decide
  have hloop : ∀ n : Nat, n ≤ 6 → ∃ (rs : List PyData) (x5 x6 x7 x8 x9 x10 : Option PyData), gFor (aName 5) (gRng1 (gConsA (gVar 3) gNilA)) (gSeq (gSet 6 (gAdd (gC (.int 7)) (gMul (gC (.int 4)) (gVar 5))))
    (gSeq (gSet 7 (gComp [10] (aName 10) gYes (gFn 2 f__law_number (gConsA (gFn 2 f__law_cell_at (gConsA (gVar 0) (gConsA (gAdd (gVar 6) (gVar 10)) gNilA))) (gConsA (gVar 2) gNilA))) (gRng1 (gConsA (gVar 1) gNilA))))
    (gSeq (gSet 8 (gFn 2 f__law_cell_at (gConsA (gVar 0) (gConsA (gAdd (gVar 6) (gC (.int 3))) gNilA))))
    (gSeq (gSet 9 (gIx (gLst (gConsA (gC (.str "most")) (gConsA (gC (.str "least")) gNilA))) (gMod (gVar 8) (gC (.int 2)))))
    (gSeq (gIfS (gBl (gGt (gVar 2) (gC (.int 1)))) (gSet 9 (gIx (gLst (gConsA (gC (.str "most")) (gConsA (gC (.str "most")) (gConsA (gC (.str "most")) (gConsA (gC (.str "least")) gNilA))))) (gMod (gVar 8) (gC (.int 4))))) gNext)
    (gAppend 4 (gTup (gConsA (gB bTup (gConsA (gVar 7) gNilA)) (gConsA (gVar 9) (gConsA (gFn 2 f__law_bound (gConsA (gFdiv (gVar 8) (gC (.int 4))) (gConsA (gVar 2) gNilA))) gNilA)))))))))) 
      [some (scr ns), some (.int m), some (.int (kind ns)), some (.int n), some (.list []), none, none, none, none, none, none] =
      .nx [some (scr ns), some (.int m), some (.int (kind ns)), some (.int n), some (.list rs), x5, x6, x7, x8, x9, x10] ∧ rs.length = n ∧ ∀ r ∈ rs, IsRow m r := by
    intro n hn
    obtain ⟨ρ', h1, rs, x5, x6, x7, x8, x9, x10, rfl, h2, h3⟩ := for_inv (f := aName 5) (body := (gSeq (gSet 6 (gAdd (gC (.int 7)) (gMul (gC (.int 4)) (gVar 5))))
    (gSeq (gSet 7 (gComp [10] (aName 10) gYes (gFn 2 f__law_number (gConsA (gFn 2 f__law_cell_at (gConsA (gVar 0) (gConsA (gAdd (gVar 6) (gVar 10)) gNilA))) (gConsA (gVar 2) gNilA))) (gRng1 (gConsA (gVar 1) gNilA))))
    (gSeq (gSet 8 (gFn 2 f__law_cell_at (gConsA (gVar 0) (gConsA (gAdd (gVar 6) (gC (.int 3))) gNilA))))
    (gSeq (gSet 9 (gIx (gLst (gConsA (gC (.str "most")) (gConsA (gC (.str "least")) gNilA))) (gMod (gVar 8) (gC (.int 2)))))
    (gSeq (gIfS (gBl (gGt (gVar 2) (gC (.int 1)))) (gSet 9 (gIx (gLst (gConsA (gC (.str "most")) (gConsA (gC (.str "most")) (gConsA (gC (.str "most")) (gConsA (gC (.str "least")) gNilA))))) (gMod (gVar 8) (gC (.int 4))))) gNext)
    (gAppend 4 (gTup (gConsA (gB bTup (gConsA (gVar 7) gNilA)) (gConsA (gVar 9) (gConsA (gFn 2 f__law_bound (gConsA (gFdiv (gVar 8) (gC (.int 4))) (gConsA (gVar 2) gNilA))) gNilA))))))))))) (ds := rangeD 0 n)
      (ρ := [some (scr ns), some (.int m), some (.int (kind ns)), some (.int n), some (.list []), none, none, none, none, none, none])
      (fun i ρ => ∃ (rs : List PyData) (x5 x6 x7 x8 x9 x10 : Option PyData), ρ = [some (scr ns), some (.int m), some (.int (kind ns)), some (.int n), some (.list rs), x5, x6, x7, x8, x9, x10] ∧ rs.length = i ∧ ∀ r ∈ rs, IsRow m r)
      ⟨[], none, none, none, none, none, none, rfl, rfl, fun r hr => by cases hr⟩ (fun i d ρ hd hi => by
        obtain ⟨rs, x5, x6, x7, x8, x9, x10, rfl, h1, h2⟩ := hi
        obtain ⟨rfl, hi⟩ := rangeD_at hd
        obtain ⟨ks, t1, t2, t3⟩ := comp_ints (vs := [10]) (i := 10) (E := (gFn 2 f__law_number (gConsA (gFn 2 f__law_cell_at (gConsA (gVar 0) (gConsA (gAdd (gVar 6) (gVar 10)) gNilA))) (gConsA (gVar 2) gNilA)))) (gi := (gRng1 (gConsA (gVar 1) gNilA)))
          (ρ := [some (scr ns), some (.int m), some (.int (kind ns)), some (.int n), some (.list rs), some (.int i), some (.int (7 + 4 * i)), x7, x8, x9, x10]) (ds := rangeD 0 m) (bd (-50) 50) (by simp [rng1_nat (show m ≤ 1000 by omega)]) (by rw [rangeD_length]; exact lim_ge (by omega)) (fun d hd => by
            obtain ⟨j, hj, rfl⟩ := rangeD_mem hd
            refine ⟨num (cell ns (7 + 4 * i + j)) (kind ns), ?_, num_bd _ _ (cell_ge _ _)⟩
            simp [cell_ok ns (7 + 4 * i + j) (by omega), num_ok])
        rw [rangeD_length] at t2
        have cc := cell_ok ns (7 + 4 * i + 3) (by omega)
        have cg := cell_ge ns (7 + 4 * i + 3)
        generalize cell ns (7 + 4 * i + 3) = cl at cc cg
        obtain ⟨w1, hw1, p1⟩ := pick [.str "most", .str "least"] cl 2 rfl (by decide)
        obtain ⟨w2, hw2, p2⟩ := pick [.str "most", .str "most", .str "most", .str "least"] cl 4 rfl (by decide)
        have bb := bnd_ok (cl / 4) (kind ns)
        have mk : ∀ w : Str, (w = "most" ∨ w = "least") → IsRow m (.tuple [.tuple (ks.map PyData.int), .str w, .int (bnd (cl / 4) (kind ns))]) := fun w hw => ⟨ks, w, _, rfl, t2, t3, hw, bnd_bd _ _ (by omega)⟩
        have ms : mulOk 4 i = true := mulOk_l (by decide)
        by_cases hkk : 1 < kind ns
        · obtain ⟨w, rfl, hw⟩ : ∃ w : Str, w2 = .str w ∧ (w = "most" ∨ w = "least") := by
            simp at hw2
            rcases hw2 with rfl | rfl
            · exact ⟨_, rfl, .inl rfl⟩
            · exact ⟨_, rfl, .inr rfl⟩
          refine ⟨_, _, rfl, ?_, rs ++ [.tuple [.tuple (ks.map PyData.int), .str w, .int (bnd (cl / 4) (kind ns))]], some (.int i), some (.int (7 + 4 * i)), some (.list (ks.map PyData.int)), some (.int cl), some (.str w), x10, rfl, by simp [h1], fun r hr => ?_⟩
          · simp [ms, t1, cc, p1, p2, hkk, bb, l1, lim_gt (show rs.length < 1000 by omega)]
          · rcases List.mem_append.mp hr with q | q
            · exact h2 r q
            · rw [List.mem_singleton.mp q]; exact mk w hw
        · obtain ⟨w, rfl, hw⟩ : ∃ w : Str, w1 = .str w ∧ (w = "most" ∨ w = "least") := by
            simp at hw1
            rcases hw1 with rfl | rfl
            · exact ⟨_, rfl, .inl rfl⟩
            · exact ⟨_, rfl, .inr rfl⟩
          refine ⟨_, _, rfl, ?_, rs ++ [.tuple [.tuple (ks.map PyData.int), .str w, .int (bnd (cl / 4) (kind ns))]], some (.int i), some (.int (7 + 4 * i)), some (.list (ks.map PyData.int)), some (.int cl), some (.str w), x10, rfl, by simp [h1], fun r hr => ?_⟩
          · simp [ms, t1, cc, p1, hkk, bb, l1, lim_gt (show rs.length < 1000 by omega)]
          · rcases List.mem_append.mp hr with q | q
            · exact h2 r q
            · rw [List.mem_singleton.mp q]; exact mk w hw)
    rw [rangeD_length] at h2
    refine ⟨rs, x5, x6, x7, x8, x9, x10, ?_, h2, h3⟩
    rw [gFor_ap]
    simp [rng1_nat (show n ≤ 1000 by omega)]
    exact h1
  by_cases h3 : cell ns 0 / 96 % 8 = 3
  · obtain ⟨rs, x5, x6, x7, x8, x9, x10, h1, h2, h4⟩ := hloop 6 (by decide)
    rw [show ((6 : Nat) : Int) = 6 from rfl] at h1
    exact ⟨rs, by simp [c0, hm, hk, l2, l3, h3, h1], by omega, h4⟩
  · obtain ⟨n, hn, hlt⟩ := nat_of (c := cell ns 0 / 16) (m := 6) (by decide)
    obtain ⟨rs, x5, x6, x7, x8, x9, x10, h1, h2, h4⟩ := hloop n (by omega)
    exact ⟨rs, by simp [c0, hm, hk, l2, l3, h3, hn, h1], by omega, h4⟩
end K11

set_option Elab.async false
set_option linter.all false
set_option maxRecDepth 100000
namespace K11
open PySem PySem.Spec L2 Fn
theorem all_in {lo hi : Int} {ts : List Int} (h : ∀ t ∈ ts, bd lo hi t) : (ts.map PyData.int).all (inB lo hi) = true := by
  rw [List.all_map, List.all_eq_true]
  intro t ht
  obtain ⟨h1, h2⟩ := h t ht
  show (decide (lo ≤ t) && decide (t ≤ hi)) = true
  rw [decide_eq_true h1, decide_eq_true h2]
  rfl
theorem all_not {p : PyData → Bool} {xs : List PyData} {x : PyData} (h : x ∈ xs) (hp : p x = false) : xs.all p = false := by
  rw [List.all_eq_false]
  exact ⟨x, h, by rw [hp]; exact Bool.false_ne_true⟩
theorem plain_ints (ts : List Int) : ∀ d ∈ ts.map PyData.int, plain0 d = true := fun d hd => by
  obtain ⟨t, _, rfl⟩ := List.mem_map.mp hd
  rfl
theorem tops_good {ts : List Int} (h1 : 1 ≤ ts.length) (h3 : ts.length ≤ 3) (h : ∀ t ∈ ts, bd 0 20 t) : f_are_tops [.list (ts.map PyData.int)] = .ok (.bool true) := by
  rw [are_tops_l (lim_ge (by rw [List.length_map]; omega)) (plain_ints ts), all_in h, List.length_map, decide_eq_true ⟨h1, h3⟩]
  rfl
theorem gain_good {gs : List Int} {n : Nat} (hn : gs.length = n) (h3 : n ≤ 3) (h : ∀ t ∈ gs, bd (-50) 50 t) : f_is_gain [.list (gs.map PyData.int), .int n] = .ok (.bool true) := by
  rw [is_gain_l n (lim_ge (by rw [List.length_map]; omega)) (plain_ints gs), all_in h, List.length_map, decide_eq_true hn]
  rfl
theorem row_good {r : PyData} {n : Nat} (h3 : n ≤ 3) (h : IsRow n r) : f_is_row [r, .int n] = .ok (.bool (isRowB n r)) ∧ isRowB n r = true := by
  obtain ⟨ks, w, b, rfl, h1, h2, hw, h4⟩ := h
  refine ⟨row_3t n (lim_ge (by rw [List.length_map]; omega)) (plain_ints ks) rfl rfl, ?_⟩
  show ((decide ((ks.map PyData.int).length = n) && (ks.map PyData.int).all (inB (-50) 50)) && (isWordB (.str w) && inB (-2000) 2000 (.int b))) = true
  rw [all_in h2, List.length_map, decide_eq_true h1]
  have e1 : inB (-2000) 2000 (.int b) = true := by
    show (decide (-2000 ≤ b) && decide (b ≤ 2000)) = true
    rw [decide_eq_true h4.1, decide_eq_true h4.2]
    rfl
  have e2 : isWordB (.str w) = true := by
    rcases hw with rfl | rfl <;> decide +kernel
  rw [e1, e2]
  rfl
theorem rows_good {rs : List PyData} {n : Nat} (hn : rs.length ≤ 6) (h3 : n ≤ 3) (h : ∀ r ∈ rs, IsRow n r) : f_are_rows [.list rs, .int n] = .ok (.bool true) := by
  rw [are_rows_l (isRowB n) (lim_ge (by omega)) fun r hr => (row_good h3 (h r hr)).1, decide_eq_true hn]
  have : rs.all (isRowB n) = true := by
    rw [List.all_eq_true]
    exact fun r hr => (row_good h3 (h r hr)).2
  rw [this]
  rfl
theorem prob_good {ts gs : List Int} {rs : List PyData} (h1 : 1 ≤ ts.length) (h3 : ts.length ≤ 3) (ht : ∀ t ∈ ts, bd 0 20 t) (hr : rs.length ≤ 6) (hrs : ∀ r ∈ rs, IsRow ts.length r) (hg : gs.length = ts.length) (hgs : ∀ t ∈ gs, bd (-50) 50 t) :
    f_is_problem [.list (ts.map PyData.int), .list rs, .list (gs.map PyData.int)] = .ok (.bool true) := by
  have := is_problem_2 (tops_good h1 h3 ht) (r := .list rs) (g := .list (gs.map PyData.int)) (k := true) (l := true) (by rw [List.length_map]; exact rows_good hr h3 hrs) (by rw [List.length_map]; exact gain_good hg h3 hgs)
  exact this
end K11

set_option Elab.async false
set_option linter.all false
set_option maxRecDepth 100000
namespace K11
open PySem PySem.Spec L2 Fn
def prods (ks ps : List Int) : List Int := List.zipWith (fun k p => k * p) ks ps
def dot (ks ps : List Int) : Int := (prods ks ps).sum
theorem comp_mapF {vs : List Nat} {f : PyData → Rho → O Rho} {E : Rho → O PyData} {gi : Rho → O (List PyData)} {ρ : Rho} {ds : List PyData} (y : PyData → PyData) (hg : gi ρ = .ok ds) (hn : ds.length ≤ lim)
    (h : ∀ d ∈ ds, ∃ ρ1, f d (wipeR ρ vs) = .ok ρ1 ∧ E ρ1 = .ok (y d)) : gComp vs f gYes E gi ρ = .ok (.list (ds.map y)) := by
  rw [gComp_ap, hg]
  have := compL_map (f := f) (t := gYes) (e := E) (ρ := wipeR ρ vs) y ds fun d hd => by
    obtain ⟨ρ1, h1, h2⟩ := h d hd
    exact ⟨ρ1, h1, rfl, h2⟩
  simp -implicitDefEqProofs [hn, this]
def mulP : PyData → PyData
  | .tuple [.int k, .int p] => .int (k * p)
  | _ => .none
theorem zip_mul : ∀ ks ps : List Int, (zipD (ks.map PyData.int) (ps.map PyData.int)).map mulP = (prods ks ps).map PyData.int
  | [], _ => rfl
  | _ :: _, [] => rfl
  | k :: ks, p :: ps => by
    show mulP (.tuple [.int k, .int p]) :: (zipD (ks.map PyData.int) (ps.map PyData.int)).map mulP = _
    rw [zip_mul ks ps]
    rfl
theorem zip_mem {ks ps : List Int} {d : PyData} (h : d ∈ zipD (ks.map PyData.int) (ps.map PyData.int)) : ∃ k p, k ∈ ks ∧ p ∈ ps ∧ d = .tuple [.int k, .int p] := by
  obtain ⟨i, hi⟩ := List.getElem?_of_mem h
  unfold zipD at hi
  rw [List.getElem?_zipWith, List.getElem?_map, List.getElem?_map] at hi
  cases h1 : ks[i]? with
  | none => rw [h1] at hi; cases hi
  | some k =>
    cases h2 : ps[i]? with
    | none => rw [h1, h2] at hi; cases hi
    | some p =>
      rw [h1, h2] at hi
      cases hi
      exact ⟨k, p, List.mem_of_getElem? h1, List.mem_of_getElem? h2, rfl⟩
theorem mul50 {k p : Int} (h : bd (-50) 50 k) : mulOk k p = true := mulOk_l (by obtain ⟨h1, h2⟩ := h; constructor <;> omega)
theorem psum_ok {s : PyData} {ks ps : List Int} (hs : s = .list (ks.map PyData.int) ∨ s = .tuple (ks.map PyData.int)) (hn : ks.length ≤ 1000) (hk : ∀ k ∈ ks, bd (-50) 50 k) : f_products_sum [s, .list (ps.map PyData.int)] = .ok (.int (dot ks ps)) := by
  have e : rho0 4 [s, PyData.list (ps.map PyData.int)] = [some s, some (.list (ps.map PyData.int)), none, none] := rfl
  unfold f_products_sum fnG
  rw [e]
  unfold g_products_sum
  have hc := comp_mapF (vs := [2, 3]) (f := (aTup (aCons (aName 2) (aCons (aName 3) aNil)))) (E := (gMul (gVar 2) (gVar 3))) (gi := (gZipM (gConsA (gVar 0) (gConsA (gVar 1) gNilA)))) (ρ := [some s, some (.list (ps.map PyData.int)), none, none])
    (ds := zipD (ks.map PyData.int) (ps.map PyData.int)) mulP (by rcases hs with rfl | rfl <;> simp -implicitDefEqProofs) (lim_ge (by unfold zipD; rw [List.length_zipWith, List.length_map]; omega)) (fun d hd => by
      obtain ⟨k, p, h1, h2, rfl⟩ := zip_mem hd
      refine ⟨_, rfl, ?_⟩
      simp -implicitDefEqProofs [mul50 (hk k h1), mulP])
  rw [zip_mul] at hc
  have hb : bSum [.list ((prods ks ps).map PyData.int)] = .ok (.int (dot ks ps)) := by
    show (match intsD ((prods ks ps).map PyData.int) with
      | some ks => O.ok (PyData.int ks.sum)
      | none => .bad) = _
    rw [Fn.intsD_map]
    rfl
  simp -implicitDefEqProofs [hc, hb]
end K11

set_option Elab.async false
set_option linter.all false
set_option maxRecDepth 100000
namespace K11
open PySem PySem.Spec L2 Fn
abbrev pD (ts gs : List Int) (rs : List PyData) : PyData := D.prob (ts.map PyData.int) rs (gs.map PyData.int)
theorem mm : dEq (.str "most") (.str "most") = .ok (.bool true) := dEq_self (nice_str (by decide +kernel)) (by decide)
theorem ml : dEq (.str "most") (.str "least") = .ok (.bool false) := by
  have h : PyData.eqv (.str "most") (.str "least") = false := by
    show (("most" : Str) == "least") = false
    decide +kernel
  unfold dEq
  rw [h]
  rfl
theorem lm : dEq (.str "least") (.str "most") = .ok (.bool false) := by
  have h : PyData.eqv (.str "least") (.str "most") = false := by
    show (("least" : Str) == "most") = false
    decide +kernel
  unfold dEq
  rw [h]
  rfl
theorem ll : dEq (.str "least") (.str "least") = .ok (.bool true) := dEq_self (nice_str (by decide +kernel)) (by decide)
theorem lne : ¬ (("least" : Str) = "most") := by decide +kernel
/-- a fact: numbers, a bound -/
def factD (f : List Int × Int) : PyData := .tuple [.tuple (f.1.map PyData.int), .int f.2]
def rowF : PyData → List Int × Int
  | .tuple [.tuple ns, .str w, .int b] => match intsD ns with
    | some ks => if w = "most" then (ks, b) else (ks.map fun k => -k, -b)
    | none => ([], 0)
  | _ => ([], 0)
theorem rowF_ks {ks : List Int} {w : Str} {b : Int} : rowF (.tuple [.tuple (ks.map PyData.int), .str w, .int b]) = if w = "most" then (ks, b) else (ks.map fun k => -k, -b) := by
  show (match intsD (ks.map PyData.int) with
    | some ks => if w = "most" then (ks, b) else (ks.map fun k => -k, -b)
    | none => ([], 0)) = _
  rw [Fn.intsD_map]
def negP : PyData → PyData
  | .int k => .int (-k)
  | d => d
theorem row_fact_ok {r : PyData} {n : Nat} (hr : IsRow n r) (hn : n ≤ 3) : f_row_fact [r] = .ok (factD (rowF r)) := by
  obtain ⟨ks, w, b, rfl, h1, h2, hw, h4⟩ := hr
  have e : rho0 5 [PyData.tuple [.tuple (ks.map PyData.int), .str w, .int b]] = [some (.tuple [.tuple (ks.map PyData.int), .str w, .int b]), none, none, none, none] := rfl
  unfold f_row_fact fnG
  rw [e, rowF_ks]
  unfold g_row_fact factD
  rcases hw with rfl | rfl
  · rw [if_pos rfl]
    simp -implicitDefEqProofs [mm]
  · rw [if_neg lne]
    have hc := comp_map (vs := [4]) (i := 4) (E := (gNeg (gVar 4))) (gi := (gItA (gVar 1))) (ρ := [some (.tuple [.tuple (ks.map PyData.int), .str "least", .int b]), some (.tuple (ks.map PyData.int)), some (.str "least"), some (.int b), none]) (ds := ks.map PyData.int) negP
      rfl (lim_ge (by rw [List.length_map]; omega)) (fun d hd => by
        obtain ⟨k, _, rfl⟩ := List.mem_map.mp hd
        rfl)
    have hm : (ks.map PyData.int).map negP = (ks.map fun k => -k).map PyData.int := by
      rw [List.map_map, List.map_map]
      rfl
    rw [hm] at hc
    simp -implicitDefEqProofs [lm, hc, -List.map_map]
def onlyL (u : Nat) (z : Int) (n : Nat) : List Int := (List.range n).map fun p => if p = u then z else 0
def onlyP (u : Nat) (z : Int) : PyData → PyData
  | .int p => .int (if p = u then z else 0)
  | d => d
theorem only_ok (u : Nat) (z : Int) {n : Nat} (hn : n ≤ 1000) : f_only [.int u, .int z, .int n] = .ok (.tuple ((onlyL u z n).map PyData.int)) := by
  have e : rho0 4 [PyData.int u, .int z, .int n] = [some (.int u), some (.int z), some (.int n), none] := rfl
  unfold f_only fnG
  rw [e]
  unfold g_only
  have hc := comp_map (vs := [3]) (i := 3) (E := (gIf (gBl (gEq (gVar 3) (gVar 0))) (gVar 1) (gC (.int 0)))) (gi := (gRng1 (gConsA (gVar 2) gNilA))) (ρ := [some (.int u), some (.int z), some (.int n), none]) (ds := rangeD 0 n) (onlyP u z)
    (by simp -implicitDefEqProofs [rng1_nat hn]) (by rw [rangeD_length]; exact lim_ge hn) (fun d hd => by
      obtain ⟨i, hi, rfl⟩ := rangeD_mem hd
      by_cases h : i = u
      · subst h
        simp -implicitDefEqProofs [onlyP]
      · have h' : ¬ (i : Int) = u := by omega
        simp -implicitDefEqProofs [onlyP, h, h'])
  have hm : (rangeD 0 n).map (onlyP u z) = (onlyL u z n).map PyData.int := by
    rw [rangeD_int]
    unfold onlyL
    rw [List.map_map, List.map_map]
    refine List.map_congr_left fun p _ => ?_
    by_cases h : p = u
    · subst h
      simp [onlyP]
    · have h' : ¬ (p : Int) = u := by omega
      simp [onlyP, h, h']
  rw [hm] at hc
  simp -implicitDefEqProofs [hc]
end K11

set_option Elab.async false
set_option linter.all false
set_option maxRecDepth 100000
namespace K11
open PySem PySem.Spec L2 Fn
abbrev Box := List (Int × Int)
def spanD (b : Int × Int) : PyData := .tuple [.int b.1, .int b.2]
def boxD (bs : Box) : PyData := .list (bs.map spanD)
def InBox (ts : List Int) (bs : Box) : Prop := bs.length = ts.length ∧ ∀ (i : Nat) (b : Int × Int) (t : Int), bs[i]? = some b → ts[i]? = some t → 0 ≤ b.1 ∧ b.1 ≤ b.2 ∧ b.2 ≤ t
theorem zip_any {as bs : List PyData} {d : PyData} (h : d ∈ zipD as bs) : ∃ (i : Nat) (a b : PyData), as[i]? = some a ∧ bs[i]? = some b ∧ d = .tuple [a, b] := by
  obtain ⟨i, hi⟩ := List.getElem?_of_mem h
  unfold zipD at hi
  rw [List.getElem?_zipWith] at hi
  cases h1 : as[i]? with
  | none => rw [h1] at hi; cases hi
  | some k =>
    cases h2 : bs[i]? with
    | none => rw [h1, h2] at hi; cases hi
    | some p =>
      rw [h1, h2] at hi
      cases hi
      exact ⟨i, k, p, h1, h2, rfl⟩
theorem is_span_ok (lo hi t : Int) : f_is_span [.tuple [.int lo, .int hi], .int t] = .ok (.bool ((decide (0 ≤ lo) && decide (lo ≤ t)) && (decide (lo ≤ hi) && decide (hi ≤ t)))) := by
  have e : rho0 4 [PyData.tuple [.int lo, .int hi], .int t] = [some (.tuple [.int lo, .int hi]), some (.int t), none, none] := rfl
  unfold f_is_span fnG
  rw [e]
  unfold g_is_span
  have h1 := is_within_ok 0 t (show plain0 (.int lo) = true from rfl)
  have h2 := is_within_ok lo t (show plain0 (.int hi) = true from rfl)
  by_cases h : (0 ≤ lo ∧ lo ≤ t)
  · simp -implicitDefEqProofs [h1, h2, inB, h]
  · have h' : (decide (0 ≤ lo) && decide (lo ≤ t)) = false := by
      rw [Bool.and_eq_false_iff, decide_eq_false_iff_not, decide_eq_false_iff_not]
      omega
    rw [h', Bool.false_and]
    have h1' : f_is_within [.int lo, .int 0, .int t] = .ok (.bool false) := by
      rw [h1]
      show O.ok (PyData.bool (decide (0 ≤ lo) && decide (lo ≤ t))) = _
      rw [h']
    simp -implicitDefEqProofs [h1']
section
variable {ts gs : List Int} {rs : List PyData} {bs : Box}
theorem is_box_good (h : InBox ts bs) (h3 : ts.length ≤ 3) : f_is_box [pD ts gs rs, boxD bs] = .ok (.bool true) := by
  have e : rho0 4 [pD ts gs rs, boxD bs] = [some (pD ts gs rs), some (.list (bs.map spanD)), none, none] := rfl
  unfold f_is_box fnG
  rw [e]
  unfold g_is_box
  have p0 : gFld "tops" 0 (gVar 0) [some (pD ts gs rs), some (.list (bs.map spanD)), none, none] = .ok (.list (ts.map PyData.int)) := rfl
  have hl : bs.length = ts.length := h.1
  have hc := comp_mapF (vs := [2, 3]) (f := (aTup (aCons (aName 2) (aCons (aName 3) aNil)))) (E := (gFn 2 f_is_span (gConsA (gVar 2) (gConsA (gVar 3) gNilA)))) (gi := (gZipM (gConsA (gVar 1) (gConsA (gFld "tops" 0 (gVar 0)) gNilA))))
    (ρ := [some (pD ts gs rs), some (.list (bs.map spanD)), none, none]) (ds := zipD (bs.map spanD) (ts.map PyData.int)) (fun _ => .bool true) rfl (lim_ge (by unfold zipD; rw [List.length_zipWith, List.length_map]; omega)) (fun d hd => by
      obtain ⟨i, a, b, h1, h2, rfl⟩ := zip_any hd
      rw [List.getElem?_map] at h1 h2
      obtain ⟨b', hb, rfl⟩ := Option.map_eq_some_iff.mp h1
      obtain ⟨t', ht, rfl⟩ := Option.map_eq_some_iff.mp h2
      obtain ⟨k1, k2, k3⟩ := h.2 i b' t' hb ht
      refine ⟨_, rfl, ?_⟩
      have hs := is_span_ok b'.1 b'.2 t'
      rw [decide_eq_true k1, decide_eq_true (show b'.1 ≤ t' by omega), decide_eq_true k2, decide_eq_true k3] at hs
      simp -implicitDefEqProofs [spanD, hs])
  have hb := bAll_map (fun _ : PyData => true) (zipD (bs.map spanD) (ts.map PyData.int))
  have ha : (zipD (bs.map spanD) (ts.map PyData.int)).all (fun _ => true) = true := by
    rw [List.all_eq_true]
    exact fun _ _ => rfl
  rw [ha] at hb
  have hli : ((bs.length : Nat) : Int) = ts.length := by omega
  simp -implicitDefEqProofs [hc, hb, p0, hl, -gFld_ap]
theorem check_good (h : InBox ts bs) (h3 : ts.length ≤ 3) : f_check_box [pD ts gs rs, boxD bs] = .ok .none := by
  have e : rho0 2 [pD ts gs rs, boxD bs] = [some (pD ts gs rs), some (boxD bs)] := rfl
  unfold f_check_box fnG
  rw [e]
  unfold g_check_box
  simp -implicitDefEqProofs [is_box_good h h3, outR]
def spanF (n u : Nat) (b : Int × Int) : List (List Int × Int) := [(onlyL u 1 n, b.2), (onlyL u (-1) n, -b.1)]
def spansF (bs : Box) (i : Nat) : List (List Int × Int) := (List.range i).flatMap fun k => spanF bs.length k (bs.getD k (0, 0))
/-- the facts of a box -/
def factsL (rs : List PyData) (bs : Box) : List (List Int × Int) := rs.map rowF ++ spansF bs bs.length
theorem spansF_len (bs : Box) : ∀ i, (spansF bs i).length = 2 * i
  | 0 => rfl
  | i + 1 => by
    unfold spansF
    rw [List.range_succ, List.flatMap_append, List.length_append]
    have := spansF_len bs i
    unfold spansF at this
    rw [this]
    simp [spanF]
    omega
theorem spansF_succ {b : Int × Int} {i : Nat} (h : bs[i]? = some b) : spansF bs (i + 1) = spansF bs i ++ spanF bs.length i b := by
  unfold spansF
  rw [List.range_succ, List.flatMap_append, List.flatMap_cons, List.flatMap_nil, List.append_nil]
  rw [show bs.getD i (0, 0) = b by rw [List.getD_eq_getElem?_getD, h]; rfl]
theorem enum_at {ds : List PyData} {i : Nat} {d : PyData} (h : (enumD ds)[i]? = some d) : ∃ e, ds[i]? = some e ∧ d = .tuple [.int i, e] := by
  unfold enumD at h
  rw [List.getElem?_mapIdx] at h
  obtain ⟨e, h1, rfl⟩ := Option.map_eq_some_iff.mp h
  exact ⟨e, h1, rfl⟩
theorem facts_ok (h : InBox ts bs) (h3 : ts.length ≤ 3) (hr : rs.length ≤ 6) (hrs : ∀ r ∈ rs, IsRow ts.length r) : f_facts [pD ts gs rs, boxD bs] = .ok (.list ((factsL rs bs).map factD)) := by
  have e : rho0 7 [pD ts gs rs, boxD bs] = [some (pD ts gs rs), some (.list (bs.map spanD)), none, none, none, none, none] := rfl
  unfold f_facts fnG
  rw [e]
  unfold g_facts
  have hl : bs.length = ts.length := h.1
  have cg := check_good (gs := gs) (rs := rs) h h3
  have hc := comp_map (vs := [3]) (i := 3) (E := (gFn 1 f_row_fact (gConsA (gVar 3) gNilA))) (gi := (gItA (gFld "rows" 0 (gVar 0)))) (ρ := [some (pD ts gs rs), some (.list (bs.map spanD)), none, none, none, none, none]) (ds := rs) (fun d => factD (rowF d))
    rfl (lim_ge (by omega)) (fun d hd => by simp -implicitDefEqProofs [row_fact_ok (hrs d hd) h3])
  have hm : rs.map (fun d => factD (rowF d)) = (rs.map rowF).map factD := by rw [List.map_map]; rfl
  rw [hm] at hc
  have hloop : ∃ x y z : Option PyData, gFor (aTup (aCons (aName 4) (aCons (aTup (aCons (aName 5) (aCons (aName 6) aNil))) aNil))) (gEnum (gConsA (gVar 1) gNilA)) (gSeq (gAppend 2 (gTup (gConsA (gFn 3 f_only (gConsA (gVar 4) (gConsA (gC (.int 1)) (gConsA (gB bLen (gConsA (gVar 1) gNilA)) gNilA)))) (gConsA (gVar 6) gNilA))))
    (gAppend 2 (gTup (gConsA (gFn 3 f_only (gConsA (gVar 4) (gConsA (gNeg (gC (.int 1))) (gConsA (gB bLen (gConsA (gVar 1) gNilA)) gNilA)))) (gConsA (gNeg (gVar 5)) gNilA)))))
      [some (pD ts gs rs), some (.list (bs.map spanD)), some (.list ((rs.map rowF).map factD)), none, none, none, none] = .nx [some (pD ts gs rs), some (.list (bs.map spanD)), some (.list ((factsL rs bs).map factD)), none, x, y, z] := by
    obtain ⟨ρ', hx, x, y, z, rfl⟩ := for_inv (f := (aTup (aCons (aName 4) (aCons (aTup (aCons (aName 5) (aCons (aName 6) aNil))) aNil)))) (body := (gSeq (gAppend 2 (gTup (gConsA (gFn 3 f_only (gConsA (gVar 4) (gConsA (gC (.int 1)) (gConsA (gB bLen (gConsA (gVar 1) gNilA)) gNilA)))) (gConsA (gVar 6) gNilA))))
    (gAppend 2 (gTup (gConsA (gFn 3 f_only (gConsA (gVar 4) (gConsA (gNeg (gC (.int 1))) (gConsA (gB bLen (gConsA (gVar 1) gNilA)) gNilA)))) (gConsA (gNeg (gVar 5)) gNilA)))))) (ds := enumD (bs.map spanD))
      (ρ := [some (pD ts gs rs), some (.list (bs.map spanD)), some (.list ((rs.map rowF).map factD)), none, none, none, none])
      (fun i ρ => ∃ x y z : Option PyData, ρ = [some (pD ts gs rs), some (.list (bs.map spanD)), some (.list ((rs.map rowF ++ spansF bs i).map factD)), none, x, y, z]) ⟨none, none, none, by rw [show spansF bs 0 = [] from rfl, List.append_nil]⟩ (fun i d ρ hd hi => by
        obtain ⟨x, y, z, rfl⟩ := hi
        obtain ⟨b', hb', rfl⟩ := enum_at hd
        rw [List.getElem?_map] at hb'
        obtain ⟨b, hb, rfl⟩ := Option.map_eq_some_iff.mp hb'
        have hib : i < bs.length := (List.getElem?_eq_some_iff.mp hb).1
        have o1 := only_ok i 1 (n := bs.length) (by omega)
        have o2 := only_ok i (-1) (n := bs.length) (by omega)
        have hlen : ((rs.map rowF ++ spansF bs i).map factD).length = rs.length + 2 * i := by
          rw [List.length_map, List.length_append, List.length_map, spansF_len]
        have lt1 : ((rs.map rowF ++ spansF bs i).map factD).length < lim := lim_gt (by omega)
        have lt2 : ((rs.map rowF ++ spansF bs i).map factD).length + 1 < lim := lim_gt (by omega)
        refine ⟨_, _, rfl, ?_, some (.int i), some (.int b.1), some (.int b.2), rfl⟩
        have hs : (rs.map rowF ++ spansF bs (i + 1)).map factD = (rs.map rowF ++ spansF bs i).map factD ++ [factD (onlyL i 1 bs.length, b.2)] ++ [factD (onlyL i (-1) bs.length, -b.1)] := by
          rw [spansF_succ hb, ← List.append_assoc, List.map_append, List.append_assoc]
          rfl
        rw [hs]
        generalize (rs.map rowF ++ spansF bs i).map factD = acc at lt1 lt2 ⊢
        simp -implicitDefEqProofs [o1, o2, lt1, lt2, factD])
    refine ⟨x, y, z, ?_⟩
    have he : (enumD (bs.map spanD)).length = bs.length := by unfold enumD; rw [List.length_mapIdx, List.length_map]
    rw [he] at hx
    have hf : factsL rs bs = rs.map rowF ++ spansF bs bs.length := rfl
    rw [hf, ← hx, gFor_ap]
    rfl
  obtain ⟨x, y, z, hl2⟩ := hloop
  have cg' : f_check_box [pD ts gs rs, .list (bs.map spanD)] = .ok .none := cg
  simp -implicitDefEqProofs [cg', hc, hl2, outR, -List.map_map]
end
end K11

set_option Elab.async false
set_option linter.all false
set_option maxRecDepth 100000
namespace K11
open PySem PySem.Spec L2 Fn Tab
theorem about_row_ok {k : Nat} {l : List Int} {s : Int} {c : Nat} (hc : c < l.length) (hn : l.length ≤ 1000) (hs : Sm k s) (hl : ∀ x ∈ l, Sm k x) (h0 : 0 < k) (hk : k + k ≤ 1000000) :
    f_about_row [lnD l, .int s, .int c] = .ok (lnD (rowA l s c)) := by
  have e : rho0 5 [lnD l, PyData.int s, PyData.int c] = [some (lnD l), some (.int s), some (.int c), none, none] := rfl
  unfold f_about_row fnG
  rw [e]
  unfold g_about_row
  have hcc := comp_of (vs := [4]) (f := aName 4) (t := gYes) (e := gMul (gVar 4) (gVar 1)) (gi := gItA (gVar 0)) (ρ := [some (lnD l), some (.int s), some (.int c), none, none]) l PyData.int (fun x => .int (x * s)) (by simp -implicitDefEqProofs) (lim_ge hn) (fun a ha => ⟨_, rfl, rfl, by
    simp -implicitDefEqProofs [(hl a ha).ok hs h0 h0 hk]⟩)
  have hsm := hs.ok hs h0 h0 hk
  have hx : ixN l.length (c : Int) = some c := ixN_nat hc
  simp -implicitDefEqProofs [hcc, hsm, hx]
  unfold rowA
  rw [← set_int, List.map_map]
  rfl
theorem other_row_ok {k : Nat} {l a : List Int} {s : Int} {c : Nat} (hc : c < l.length) (ha : a.length = l.length) (hn : l.length ≤ 1000) (hs : Sm k s) (hl : ∀ x ∈ l, Sm k x) (hla : ∀ x ∈ a, Sm k x) (h0 : 0 < k) (hk : k + k ≤ 1000000) :
    f_other_row [lnD l, lnD a, .int s, .int c] = .ok (lnD (rowO l a s c)) := by
  have e : rho0 9 [lnD l, lnD a, PyData.int s, PyData.int c] = [some (lnD l), some (lnD a), some (.int s), some (.int c), none, none, none, none, none] := rfl
  unfold f_other_row fnG
  rw [e]
  unfold g_other_row
  have i1 := ix_int a c (by omega)
  have i2 := ix_int l c hc
  have m1 : Sm k (a.getD c 0) := hla _ (by rw [List.getD_eq_getElem?_getD, List.getElem?_eq_getElem (by omega)]; exact List.getElem_mem _)
  have m2 : Sm k (l.getD c 0) := hl _ (by rw [List.getD_eq_getElem?_getD, List.getElem?_eq_getElem (by omega)]; exact List.getElem_mem _)
  generalize hA : a.getD c 0 = A at *
  generalize hB : l.getD c 0 = B at *
  have hcc := comp_of (vs := [7, 8]) (f := aTup (aCons (aName 7) (aCons (aName 8) aNil))) (t := gYes) (e := gSub' (gMul (gVar 7) (gVar 4)) (gMul (gVar 8) (gVar 5))) (gi := gZipM (gConsA (gVar 0) (gConsA (gVar 1) gNilA))) (ρ := [some (lnD l), some (lnD a), some (.int s), some (.int c), some (.int A), some (.int B), none, none, none])
    (l.zip a) (fun p => PyData.tuple [.int p.1, .int p.2]) (fun p => .int (p.1 * A - p.2 * B)) (by simp -implicitDefEqProofs [zipD_map]) (lim_ge (by rw [List.length_zip]; omega)) (fun p hp => ⟨_, rfl, rfl, by
    have q := List.of_mem_zip (a := p.1) (b := p.2) hp
    simp -implicitDefEqProofs [(hl _ q.1).ok m1 h0 h0 hk, (hla _ q.2).ok m2 h0 h0 hk]⟩)
  have hsm := m2.neg.ok hs h0 h0 hk
  have hz : (l.zip a).length = l.length := by rw [List.length_zip]; omega
  have hx : ixN l.length (c : Int) = some c := ixN_nat hc
  simp -implicitDefEqProofs [i1, i2, hcc, hsm, hz, hx, ha]
  unfold rowO
  rw [hA, hB, ← set_int]
  congr 1
  rw [List.zip_eq_zipWith, List.map_zipWith, List.map_zipWith]
theorem reduced_ok {k m n : Nat} {t : Tb} {s : Int} (h : Rect m n t) (hm : 1 ≤ m) (hn : 1 ≤ n) (hm2 : m ≤ 1000) (hn2 : n ≤ 1000) (hs : Sm k s) (hs0 : s ≠ 0) (h0 : 0 < k) (hk : k ≤ 9000) :
    f_reduced [tbD t, .int s] = .ok (.tuple [tbD (redT t s), .int (redS t s)]) := by
  have e : rho0 6 [tbD t, PyData.int s] = [some (tbD t), some (.int s), none, none, none, none] := rfl
  unfold f_reduced fnG
  rw [e]
  unfold g_reduced
  have ne : t ≠ [] := fun z => by
    have := h.1
    rw [z] at this
    simp at this
    omega
  have nl : ∀ l ∈ t, l ≠ [] := fun l hl z => by
    have := h.2 l hl
    rw [z] at this
    simp at this
    omega
  have inner : ∀ (l : List Int) (g : Int) (x y : Option PyData), ∃ y', forL (aName 4) (gSet 2 (gB bGcd (gConsA (gVar 2) (gConsA (gVar 4) gNilA)))) (l.map PyData.int) [some (tbD t), some (.int s), some (.int g), x, y, none] = .nx [some (tbD t), some (.int s), some (.int (com1 g l)), x, y', none] := fun l g x y => by
    obtain ⟨j', h1, _⟩ := for_fold (f := aName 4) (body := gSet 2 (gB bGcd (gConsA (gVar 2) (gConsA (gVar 4) gNilA)))) l PyData.int (fun (g : Int) (y : Option PyData) => [some (tbD t), some (.int s), some (.int g), x, y, none]) (fun g n => ((Nat.gcd g.natAbs n.natAbs : Nat) : Int)) (fun _ _ => True) (b := g) (j := y) trivial
      (fun p a q b j _ _ => ⟨_, some (.int a), rfl, by simp -implicitDefEqProofs, trivial⟩)
    exact ⟨j', h1⟩
  obtain ⟨⟨x3, x4⟩, hf, _⟩ := for_fold (f := aName 3) (body := gFor (aName 4) (gItA (gVar 3)) (gSet 2 (gB bGcd (gConsA (gVar 2) (gConsA (gVar 4) gNilA))))) t lnD (fun (g : Int) (y : Option PyData × Option PyData) => [some (tbD t), some (.int s), some (.int g), y.1, y.2, none]) com1 (fun _ _ => True) (b := s) (j := (none, none)) trivial
      (fun p a q b j _ _ => by
        obtain ⟨y', hy⟩ := inner a b (some (lnD a)) j.2
        refine ⟨_, (some (lnD a), y'), rfl, ?_, trivial⟩
        simp -implicitDefEqProofs [gFor_ap, hy])
  have hd0 := dvs_ne (s := s) ne nl hs0
  have hdl : (dvs s t).natAbs.log2 < 9000 := (hs.dvd dvs_dvd.1 hs0).log h0 hk
  have hcom : t.foldl com1 s = com s t := rfl
  rw [hcom] at hf
  have hdv : (if 0 < s then com s t else -com s t) = dvs s t := rfl
  have cc : ∀ (x4 : Option PyData) (l : List Int), l ∈ t → gComp [4] (aName 4) gYes (gFdivX (gVar 4) (gVar 5)) (gItA (gVar 3)) [some (tbD t), some (.int s), some (.int (com s t)), some (lnD l), x4, some (.int (dvs s t))] = .ok (lnD (l.map (·.fdiv (dvs s t)))) := fun x4 l hl => by
    have := comp_of (vs := [4]) (f := aName 4) (t := gYes) (e := gFdivX (gVar 4) (gVar 5)) (gi := gItA (gVar 3)) (ρ := [some (tbD t), some (.int s), some (.int (com s t)), some (lnD l), x4, some (.int (dvs s t))]) l PyData.int (fun x => .int (x.fdiv (dvs s t))) (by simp -implicitDefEqProofs) (lim_ge (by have := h.2 l hl; omega)) (fun a ha => ⟨_, rfl, rfl, by
      simp -implicitDefEqProofs [hd0, hdl]⟩)
    rw [this]
    simp -implicitDefEqProofs
  have c2 := comp_of (vs := [3]) (f := aName 3) (t := gYes) (e := gComp [4] (aName 4) gYes (gFdivX (gVar 4) (gVar 5)) (gItA (gVar 3))) (gi := gItA (gVar 0)) (ρ := [some (tbD t), some (.int s), some (.int (com s t)), x3, x4, some (.int (dvs s t))]) t lnD (fun l => lnD (l.map (·.fdiv (dvs s t)))) (by simp -implicitDefEqProofs) (lim_ge (by have := h.1; omega)) (fun l hl => ⟨_, rfl, rfl, by
    simp -implicitDefEqProofs
    exact cc x4 l hl⟩)
  have hred : (t.map fun l => lnD (l.map (·.fdiv (dvs s t)))) = (redT t s).map lnD := by
    unfold redT
    rw [List.map_map]
    rfl
  rw [hred] at c2
  have hrs : s.fdiv (dvs s t) = redS t s := rfl
  by_cases hp : 0 < s
  · have hv : com s t = dvs s t := by unfold dvs; rw [if_pos hp]
    rw [← hv] at c2 hd0 hdl hrs
    simp -implicitDefEqProofs [gFor_ap, hf, hp, c2, hd0, hdl, hrs]
  · have hv : -com s t = dvs s t := by unfold dvs; rw [if_neg hp]
    rw [← hv] at c2 hd0 hdl hrs
    have hd1 : com s t ≠ 0 := by omega
    rw [Int.natAbs_neg] at hdl
    simp -implicitDefEqProofs [gFor_ap, hf, hp, c2, hd1, hdl, hrs]
theorem told_sm {k m n : Nat} {t : Tb} {s : Int} {r c : Nat} (h : Rect m n t) (hr : r < m) (hc : c < n) (hs : Sm k s) (hl : ∀ l ∈ t, ∀ x ∈ l, Sm k x) : ∀ l ∈ told t s r c, ∀ x ∈ l, Sm (k + k + 1) x := by
  have hcel : ∀ i j, i < m → j < n → Sm k (cel t i j) := fun i j hi hj => by
    obtain ⟨l, h1, h2⟩ := rect_get h hi
    have h3 : l[j]? = some (l[j]'(by omega)) := List.getElem?_eq_getElem _
    rw [cel_of h1 h3]
    exact hl l (List.mem_of_getElem? h1) _ (List.mem_of_getElem? h3)
  intro l hl' x hx
  have R := told_rect (s := s) (r := r) (c := c) h hr
  obtain ⟨i, hi⟩ := List.getElem?_of_mem hl'
  obtain ⟨j, hj⟩ := List.getElem?_of_mem hx
  have i1 : i < m := by rw [← R.1]; exact (List.getElem?_eq_some_iff.mp hi).1
  have j1 : j < n := by rw [← R.2 l hl']; exact (List.getElem?_eq_some_iff.mp hj).1
  obtain ⟨l', k1, k2, k3⟩ := told_cel (s := s) (r := r) (c := c) h hr i1 j1 hc
  rw [hi] at k1
  cases k1
  rw [hj] at k3
  cases k3
  split
  · split
    · exact (hs.mul hs).up (by omega)
    · exact ((hcel r j hr j1).mul hs).up (by omega)
  · split
    · exact ((hcel i c i1 hc).neg.mul hs).up (by omega)
    · exact ((hcel i j i1 j1).mul (hcel r c hr hc)).sub ((hcel r j hr j1).mul (hcel i c i1 hc))
theorem turned_ok {k m n : Nat} {t : Tb} {s : Int} {r c : Nat} (h : Rect m n t) (hr : r < m) (hc : c < n) (hm2 : m ≤ 1000) (hn2 : n ≤ 1000) (hs : Sm k s) (hs0 : s ≠ 0) (hl : ∀ l ∈ t, ∀ x ∈ l, Sm k x) (h0 : 0 < k) (hk : k + k ≤ 9000) (hp : cel t r c ≠ 0) :
    f_turned [tbD t, .int s, .int r, .int c] = .ok (.tuple [tbD (turnT t s r c), .int (turnS t s r c)]) := by
  have e : rho0 7 [tbD t, PyData.int s, PyData.int r, PyData.int c] = [some (tbD t), some (.int s), some (.int r), some (.int c), none, none, none] := rfl
  unfold f_turned fnG
  rw [e]
  unfold g_turned
  obtain ⟨a, ha, la⟩ := rect_get h hr
  have ea : t.getD r [] = a := getD_of ha
  have i1 := ix_row t r (by rw [h.1]; exact hr)
  rw [ea] at i1
  have i2 := ix_int a c (by omega)
  have hla := hl a (List.mem_of_getElem? ha)
  have hac : Sm k (a.getD c 0) := hla _ (by rw [List.getD_eq_getElem?_getD, List.getElem?_eq_getElem (by omega)]; exact List.getElem_mem _)
  have hpe : cel t r c = a.getD c 0 := by unfold cel; rw [ea]
  rw [hpe] at hp
  have cc := comp_of (vs := [6]) (f := aName 6) (t := gYes) (e := gFn 4 f_other_row (gConsA (gVar 6) (gConsA (gIx (gVar 0) (gVar 2)) (gConsA (gVar 1) (gConsA (gVar 3) gNilA))))) (gi := gItA (gVar 0)) (ρ := [some (tbD t), some (.int s), some (.int r), some (.int c), some (.int (a.getD c 0)), none, none]) t lnD (fun l => lnD (rowO l a s c)) (by simp -implicitDefEqProofs) (lim_ge (by rw [h.1]; exact hm2)) (fun l hll => ⟨_, rfl, rfl, by
    have := other_row_ok (k := k) (l := l) (a := a) (s := s) (c := c) (by rw [h.2 l hll]; exact hc) (by rw [h.2 l hll, la]) (by rw [h.2 l hll]; exact hn2) hs (hl l hll) hla h0 (by omega)
    simp -implicitDefEqProofs [i1, this]⟩)
  have ab := about_row_ok (k := k) (l := a) (s := s) (c := c) (by omega) (by omega) hs hla h0 (by omega)
  have hx : ixN m (r : Int) = some r := ixN_nat hr
  have hmu := hs.ok hac h0 h0 (by omega)
  have sm := told_sm (r := r) (c := c) h hr hc hs hl
  have rd := reduced_ok (k := k + k) (m := m) (n := n) (t := told t s r c) (s := s * a.getD c 0) (told_rect h hr) (by omega) (by omega) hm2 hn2 (hs.mul hac) (Int.mul_ne_zero hs0 hp) (by omega) hk
  have et : ((t.map fun l => lnD (rowO l a s c)).set r (lnD (rowA a s c))) = (told t s r c).map lnD := by
    unfold told
    rw [ea, ← set_row, List.map_map]
    rfl
  have eT : redT (told t s r c) (s * a.getD c 0) = turnT t s r c := by unfold turnT; rw [ea]
  have eS : redS (told t s r c) (s * a.getD c 0) = turnS t s r c := by unfold turnS; rw [ea]
  rw [eT, eS] at rd
  generalize a.getD c 0 = A at *
  simp -implicitDefEqProofs [i1, i2, hp, cc, h.1, hx, ab, et, hmu, rd]
end K11

set_option Elab.async false
set_option linter.all false
/-! The dual simplex method over whole numbers: tables of three columns. -/
namespace Sx
def dot (a x : Nat → Int) : Int := a 0 * x 0 + a 1 * x 1 + a 2 * x 2
def det (t : Nat → Nat → Int) : Int :=
  t 0 0 * (t 1 1 * t 2 2 - t 1 2 * t 2 1) - t 0 1 * (t 1 0 * t 2 2 - t 1 2 * t 2 0) + t 0 2 * (t 1 0 * t 2 1 - t 1 1 * t 2 0)
/-- a table: the scale, the numbers of its rows, the last ones; the vectors and bounds of the tight facts (by columns) and of the others (by rows) -/
structure Tab where
  s : Int
  l : Nat → Nat → Int
  L : Nat → Int
  tv : Nat → Nat → Int
  tb : Nat → Int
  av : Nat → Nat → Int
  bv : Nat → Int
structure Tab.Ok (S : Tab) (k : Nat) : Prop where
  s : 0 < S.s
  A : ∀ i, i ≤ k → ∀ u, u < 3 → S.s * S.av i u + (S.l i 0 * S.tv 0 u + S.l i 1 * S.tv 1 u + S.l i 2 * S.tv 2 u) = 0
  B : ∀ i, i ≤ k → S.s * S.bv i + (S.l i 0 * S.tb 0 + S.l i 1 * S.tb 1 + S.l i 2 * S.tb 2) = S.L i
  g : ∀ j, j < 3 → 0 ≤ S.l k j
  d : det S.tv ≠ 0
structure Piv (S S' : Tab) (k r c : Nat) (d : Int) : Prop where
  rk : r < k
  c3 : c < 3
  p : S.l r c < 0
  m : S.L r < 0
  dn : d < 0
  best : ∀ j, j < 3 → S.l r j < 0 → S.l k c * S.l r j ≥ S.l k j * S.l r c
  s' : d * S'.s = S.s * S.l r c
  l' : ∀ i, i ≤ k → i ≠ r → ∀ j, j < 3 → j ≠ c → d * S'.l i j = S.l i j * S.l r c - S.l r j * S.l i c
  lc' : ∀ i, i ≤ k → i ≠ r → d * S'.l i c = - S.l i c * S.s
  lr' : ∀ j, j < 3 → j ≠ c → d * S'.l r j = S.l r j * S.s
  lrc' : d * S'.l r c = S.s * S.s
  L' : ∀ i, i ≤ k → i ≠ r → d * S'.L i = S.L i * S.l r c - S.L r * S.l i c
  Lr' : d * S'.L r = S.L r * S.s
  tv' : ∀ j, j < 3 → j ≠ c → S'.tv j = S.tv j
  tc' : S'.tv c = S.av r
  tb' : ∀ j, j < 3 → j ≠ c → S'.tb j = S.tb j
  tbc' : S'.tb c = S.bv r
  av' : ∀ i, i ≤ k → i ≠ r → S'.av i = S.av i
  ar' : S'.av r = S.tv c
  bv' : ∀ i, i ≤ k → i ≠ r → S'.bv i = S.bv i
  br' : S'.bv r = S.tb c
theorem lt3 {c : Nat} (h : c < 3) : c = 0 ∨ c = 1 ∨ c = 2 := by omega
theorem mul_cancel {d x y : Int} (hd : d < 0) (h : d * x = d * y) : x = y := Int.eq_of_mul_eq_mul_left (by omega) h
section
variable {S S' : Tab} {k r c : Nat} {d : Int}
theorem Piv.s_pos (P : Piv S S' k r c d) (h : S.Ok k) : 0 < S'.s := by
  have h1 : S.s * S.l r c < 0 := Int.mul_neg_of_pos_of_neg h.s P.p
  rw [← P.s'] at h1
  have h2 := P.dn
  by_cases z : 0 < S'.s
  · exact z
  · exact absurd h1 (Int.not_lt.mpr (Int.mul_nonneg_of_nonpos_of_nonpos (Int.le_of_lt h2) (Int.not_lt.mp z)))
theorem Piv.A' (P : Piv S S' k r c d) (h : S.Ok k) (i : Nat) (hi : i ≤ k) (u : Nat) (hu : u < 3) : S'.s * S'.av i u + (S'.l i 0 * S'.tv 0 u + S'.l i 1 * S'.tv 1 u + S'.l i 2 * S'.tv 2 u) = 0 := by
  have hr := h.A r (Nat.le_of_lt P.rk) u hu
  have e0 := P.s'
  apply mul_cancel P.dn
  rw [Int.mul_zero]
  by_cases z : i = r
  · subst z
    have a1 := congrFun P.ar' u
    have t1 := congrFun P.tc' u
    have x := P.lrc'
    have y := P.lr'
    have tt := fun j h1 h2 => congrFun (P.tv' j h1 h2) u
    rcases lt3 P.c3 with rfl | rfl | rfl
    · have y1 := y 1 (by decide) (by decide)
      have y2 := y 2 (by decide) (by decide)
      have t2 := tt 1 (by decide) (by decide)
      have t3 := tt 2 (by decide) (by decide)
      rw [a1, t1, t2, t3]
      grind
    · have y1 := y 0 (by decide) (by decide)
      have y2 := y 2 (by decide) (by decide)
      have t2 := tt 0 (by decide) (by decide)
      have t3 := tt 2 (by decide) (by decide)
      rw [a1, t1, t2, t3]
      grind
    · have y1 := y 0 (by decide) (by decide)
      have y2 := y 1 (by decide) (by decide)
      have t2 := tt 0 (by decide) (by decide)
      have t3 := tt 1 (by decide) (by decide)
      rw [a1, t1, t2, t3]
      grind
  · have hh := h.A i hi u hu
    have a1 := congrFun (P.av' i hi z) u
    have t1 := congrFun P.tc' u
    have x := P.lc' i hi z
    have y := P.l' i hi z
    have tt := fun j h1 h2 => congrFun (P.tv' j h1 h2) u
    rcases lt3 P.c3 with rfl | rfl | rfl
    · have y1 := y 1 (by decide) (by decide)
      have y2 := y 2 (by decide) (by decide)
      have t2 := tt 1 (by decide) (by decide)
      have t3 := tt 2 (by decide) (by decide)
      rw [a1, t1, t2, t3]
      grind
    · have y1 := y 0 (by decide) (by decide)
      have y2 := y 2 (by decide) (by decide)
      have t2 := tt 0 (by decide) (by decide)
      have t3 := tt 2 (by decide) (by decide)
      rw [a1, t1, t2, t3]
      grind
    · have y1 := y 0 (by decide) (by decide)
      have y2 := y 1 (by decide) (by decide)
      have t2 := tt 0 (by decide) (by decide)
      have t3 := tt 1 (by decide) (by decide)
      rw [a1, t1, t2, t3]
      grind
theorem Piv.B' (P : Piv S S' k r c d) (h : S.Ok k) (i : Nat) (hi : i ≤ k) : S'.s * S'.bv i + (S'.l i 0 * S'.tb 0 + S'.l i 1 * S'.tb 1 + S'.l i 2 * S'.tb 2) = S'.L i := by
  have hr := h.B r (Nat.le_of_lt P.rk)
  have e0 := P.s'
  apply mul_cancel P.dn
  by_cases z : i = r
  · subst z
    have a1 := P.br'
    have t1 := P.tbc'
    have x := P.lrc'
    have y := P.lr'
    have q := P.Lr'
    have tt := P.tb'
    rcases lt3 P.c3 with rfl | rfl | rfl
    · have y1 := y 1 (by decide) (by decide)
      have y2 := y 2 (by decide) (by decide)
      rw [a1, t1, tt 1 (by decide) (by decide), tt 2 (by decide) (by decide)]
      grind
    · have y1 := y 0 (by decide) (by decide)
      have y2 := y 2 (by decide) (by decide)
      rw [a1, t1, tt 0 (by decide) (by decide), tt 2 (by decide) (by decide)]
      grind
    · have y1 := y 0 (by decide) (by decide)
      have y2 := y 1 (by decide) (by decide)
      rw [a1, t1, tt 0 (by decide) (by decide), tt 1 (by decide) (by decide)]
      grind
  · have hh := h.B i hi
    have a1 := P.bv' i hi z
    have t1 := P.tbc'
    have x := P.lc' i hi z
    have y := P.l' i hi z
    have q := P.L' i hi z
    have tt := P.tb'
    rcases lt3 P.c3 with rfl | rfl | rfl
    · have y1 := y 1 (by decide) (by decide)
      have y2 := y 2 (by decide) (by decide)
      rw [a1, t1, tt 1 (by decide) (by decide), tt 2 (by decide) (by decide)]
      grind
    · have y1 := y 0 (by decide) (by decide)
      have y2 := y 2 (by decide) (by decide)
      rw [a1, t1, tt 0 (by decide) (by decide), tt 2 (by decide) (by decide)]
      grind
    · have y1 := y 0 (by decide) (by decide)
      have y2 := y 1 (by decide) (by decide)
      rw [a1, t1, tt 0 (by decide) (by decide), tt 1 (by decide) (by decide)]
      grind
/-- nought stays nought, what is not below nought too -/
theorem neg_div {d x : Int} (hd : d < 0) (h : d * x ≤ 0) : 0 ≤ x := by
  by_cases z : 0 ≤ x
  · exact z
  · exact absurd (Int.mul_pos_of_neg_of_neg hd (Int.not_le.mp z)) (Int.not_lt.mpr h)
theorem Piv.g' (P : Piv S S' k r c d) (h : S.Ok k) (j : Nat) (hj : j < 3) : 0 ≤ S'.l k j := by
  have nk : k ≠ r := Nat.ne_of_gt P.rk
  apply neg_div P.dn
  by_cases z : j = c
  · subst z
    rw [P.lc' k (Nat.le_refl _) nk, Int.neg_mul]
    have := Int.mul_nonneg (h.g j hj) (Int.le_of_lt h.s)
    omega
  · rw [P.l' k (Nat.le_refl _) nk j hj z]
    have h1 := h.g j hj
    have h2 := h.g c P.c3
    have h3 : S.l k j * S.l r c ≤ 0 := Int.mul_nonpos_of_nonneg_of_nonpos h1 (Int.le_of_lt P.p)
    by_cases y : S.l r j < 0
    · have := P.best j hj y
      rw [Int.mul_comm (S.l r j)]
      omega
    · have h4 : 0 ≤ S.l r j * S.l k c := Int.mul_nonneg (by omega) h2
      omega
theorem Piv.d' (P : Piv S S' k r c d) (h : S.Ok k) : det S'.tv ≠ 0 := by
  have e : S.s * det S'.tv = - S.l r c * det S.tv := by
    have hr := fun u hu => h.A r (Nat.le_of_lt P.rk) u hu
    have h0 := hr 0 (by decide)
    have h1 := hr 1 (by decide)
    have h2 := hr 2 (by decide)
    have t1 := P.tc'
    have tt := P.tv'
    unfold det
    rcases lt3 P.c3 with rfl | rfl | rfl
    · rw [t1, tt 1 (by decide) (by decide), tt 2 (by decide) (by decide)]
      grind
    · rw [t1, tt 0 (by decide) (by decide), tt 2 (by decide) (by decide)]
      grind
    · rw [t1, tt 0 (by decide) (by decide), tt 1 (by decide) (by decide)]
      grind
  intro z
  rw [z, Int.mul_zero] at e
  have h1 := P.p
  rcases Int.mul_eq_zero.mp e.symm with q | q
  · omega
  · exact h.d q
theorem Piv.ok (P : Piv S S' k r c d) (h : S.Ok k) : S'.Ok k := ⟨P.s_pos h, P.A' h, P.B' h, P.g' h, P.d' h⟩
end
end Sx

set_option Elab.async false
set_option linter.all false
/-! The numbers of a table without a common divisor are not great. -/
namespace Sx
def rep (t : Nat → Nat → Int) (j : Nat) (a : Nat → Int) : Nat → Nat → Int := fun i => if i = j then a else t i
theorem cramer {s : Int} {a l : Nat → Int} {t : Nat → Nat → Int} (h : ∀ u, u < 3 → s * a u + (l 0 * t 0 u + l 1 * t 1 u + l 2 * t 2 u) = 0) (j : Nat) (hj : j < 3) : s * det (rep t j a) = - (l j) * det t := by
  have h0 := h 0 (by decide)
  have h1 := h 1 (by decide)
  have h2 := h 2 (by decide)
  unfold det rep
  rcases lt3 hj with rfl | rfl | rfl
  · simp
    grind
  · simp
    grind
  · simp
    grind
/-- no number but one divides all of it -/
def Prim (S : Tab) (k : Nat) : Prop := ∀ e : Int, e ∣ S.s → (∀ i, i ≤ k → ∀ j, j < 3 → e ∣ S.l i j) → (∀ i, i ≤ k → e ∣ S.L i) → e ∣ 1
theorem coprime_dvd {s1 x D1 : Int} (hc : Int.gcd s1 D1 = 1) (h : s1 ∣ x * D1) : s1 ∣ x := by
  have h1 := Int.natAbs_dvd_natAbs.mpr h
  rw [Int.natAbs_mul] at h1
  exact Int.natAbs_dvd_natAbs.mp (Nat.Coprime.dvd_of_dvd_mul_right (show Nat.Coprime _ _ from hc) h1)
theorem s_dvd {S : Tab} {k : Nat} (h : S.Ok k) (p : Prim S k) : S.s ∣ det S.tv := by
  have hs := h.s
  generalize hD : det S.tv = D
  have e1 : ∀ i, i ≤ k → ∀ j, j < 3 → S.s ∣ S.l i j * D := fun i hi j hj => by
    have := cramer (l := S.l i) (fun u hu => h.A i hi u hu) j hj
    rw [hD] at this
    exact ⟨-det (rep S.tv j (S.av i)), by rw [Int.mul_neg]; rw [this]; rw [Int.neg_mul, Int.neg_neg]⟩
  have e2 : ∀ i, i ≤ k → S.s ∣ S.L i * D := fun i hi => by
    rw [← h.B i hi]
    have q0 := e1 i hi 0 (by decide)
    have q1 := e1 i hi 1 (by decide)
    have q2 := e1 i hi 2 (by decide)
    have : (S.s * S.bv i + (S.l i 0 * S.tb 0 + S.l i 1 * S.tb 1 + S.l i 2 * S.tb 2)) * D = S.s * (S.bv i * D) + ((S.l i 0 * D) * S.tb 0 + (S.l i 1 * D) * S.tb 1 + (S.l i 2 * D) * S.tb 2) := by grind
    rw [this]
    exact Int.dvd_add ⟨_, rfl⟩ (Int.dvd_add (Int.dvd_add (Int.dvd_mul_of_dvd_left q0) (Int.dvd_mul_of_dvd_left q1)) (Int.dvd_mul_of_dvd_left q2))
  have gp : 0 < Int.gcd S.s D := Int.gcd_pos_of_ne_zero_left _ (by omega)
  obtain ⟨s1, hs1⟩ : ((Int.gcd S.s D : Nat) : Int) ∣ S.s := Int.gcd_dvd_left ..
  obtain ⟨D1, hD1⟩ : ((Int.gcd S.s D : Nat) : Int) ∣ D := Int.gcd_dvd_right ..
  generalize hg : Int.gcd S.s D = g at *
  have gp' : (g : Int) ≠ 0 := by omega
  have hc : Int.gcd s1 D1 = 1 := by
    have z : Int.gcd ((g : Int) * s1) ((g : Int) * D1) = g := by rw [← hs1, ← hD1]; exact hg
    rw [Int.gcd_mul_left] at z
    have z2 : (g : Int).natAbs = g := Int.natAbs_natCast g
    rw [z2] at z
    exact Nat.eq_of_mul_eq_mul_left gp (by omega)
  have red : ∀ x, S.s ∣ x * D → s1 ∣ x := fun x hx => by
    apply coprime_dvd hc
    rw [hs1, hD1] at hx
    have : x * ((g : Int) * D1) = g * (x * D1) := by grind
    rw [this] at hx
    exact Int.dvd_of_mul_dvd_mul_left gp' hx
  have one : s1 ∣ 1 := p s1 ⟨g, by rw [Int.mul_comm]; exact hs1⟩ (fun i hi j hj => red _ (e1 i hi j hj)) (fun i hi => red _ (e2 i hi))
  obtain ⟨u, hu⟩ := one
  refine ⟨u * D1, ?_⟩
  rw [hD1, hs1]
  have : (g : Int) * s1 * (u * D1) = g * ((s1 * u) * D1) := by grind
  rw [this, ← hu, Int.one_mul]
theorem natAbs_le {x : Int} {n : Nat} : x.natAbs ≤ n ↔ -(n : Int) ≤ x ∧ x ≤ n := by omega
theorem mul_bd {x y : Int} {m n : Nat} (hx : x.natAbs ≤ m) (hy : y.natAbs ≤ n) : (x * y).natAbs ≤ m * n := by
  rw [Int.natAbs_mul]; exact Nat.mul_le_mul hx hy
theorem det_bd {t : Nat → Nat → Int} (h : ∀ i, i < 3 → ∀ u, u < 3 → (t i u).natAbs ≤ 50) : (det t).natAbs ≤ 750000 := by
  have p : ∀ i j u v, i < 3 → j < 3 → u < 3 → v < 3 → (t i u * t j v).natAbs ≤ 2500 := fun i j u v a b c d => mul_bd (h i a u c) (h j b v d)
  have q : ∀ i j k u v w x, i < 3 → j < 3 → k < 3 → u < 3 → v < 3 → w < 3 → x < 3 → (t 0 w * (t i u * t j v - t i x * t j k)).natAbs ≤ 250000 := fun i j k u v w x a b c d e f g => by
    have h1 := p i j u v a b d e
    have h2 := p i j x k a b g c
    exact mul_bd (m := 50) (n := 5000) (h 0 (by decide) w f) (by omega)
  have q0 := q 1 2 1 1 2 0 2 (by decide) (by decide) (by decide) (by decide) (by decide) (by decide) (by decide)
  have q1 := q 1 2 0 0 2 1 2 (by decide) (by decide) (by decide) (by decide) (by decide) (by decide) (by decide)
  have q2 := q 1 2 0 0 1 2 1 (by decide) (by decide) (by decide) (by decide) (by decide) (by decide) (by decide)
  unfold det
  omega
structure Tab.Sm (S : Tab) (k : Nat) : Prop where
  tv : ∀ j, j < 3 → ∀ u, u < 3 → (S.tv j u).natAbs ≤ 50
  av : ∀ i, i ≤ k → ∀ u, u < 3 → (S.av i u).natAbs ≤ 50
  tb : ∀ j, j < 3 → (S.tb j).natAbs ≤ 2000
  bv : ∀ i, i ≤ k → (S.bv i).natAbs ≤ 2000
theorem s_bd {S : Tab} {k : Nat} (h : S.Ok k) (p : Prim S k) (b : S.Sm k) : S.s ≤ 750000 := by
  have h1 := det_bd b.tv
  have h2 := s_dvd h p
  have h3 : S.s.natAbs ≤ (det S.tv).natAbs := Nat.le_of_dvd (by have := h.d; omega) (Int.natAbs_dvd_natAbs.mpr h2)
  omega
theorem l_bd {S : Tab} {k : Nat} (h : S.Ok k) (p : Prim S k) (b : S.Sm k) (i : Nat) (hi : i ≤ k) (j : Nat) (hj : j < 3) : (S.l i j).natAbs ≤ 750000 := by
  have h2 := s_dvd h p
  have h3 : S.s.natAbs ≤ (det S.tv).natAbs := Nat.le_of_dvd (by have := h.d; omega) (Int.natAbs_dvd_natAbs.mpr h2)
  have c := cramer (l := S.l i) (fun u hu => h.A i hi u hu) j hj
  have d1 : (det (rep S.tv j (S.av i))).natAbs ≤ 750000 := det_bd fun i' hi' u hu => by
    unfold rep
    split
    · exact b.av i hi u hu
    · exact b.tv i' hi' u hu
  have e : S.s.natAbs * (det (rep S.tv j (S.av i))).natAbs = (S.l i j).natAbs * (det S.tv).natAbs := by
    rw [← Int.natAbs_mul, c, Int.natAbs_mul, Int.natAbs_neg]
  have dp : 0 < (det S.tv).natAbs := by have := h.d; omega
  apply Nat.le_of_mul_le_mul_right _ dp
  rw [← e, Nat.mul_comm]
  exact Nat.mul_le_mul d1 h3
theorem L_bd {S : Tab} {k : Nat} (h : S.Ok k) (p : Prim S k) (b : S.Sm k) (i : Nat) (hi : i ≤ k) : (S.L i).natAbs ≤ 6000000000 := by
  have e := h.B i hi
  have hs := s_bd h p b
  have h0 := h.s
  have q := mul_bd (x := S.s) (m := 750000) (by omega) (b.bv i hi)
  have q0 := mul_bd (l_bd h p b i hi 0 (by decide)) (b.tb 0 (by decide))
  have q1 := mul_bd (l_bd h p b i hi 1 (by decide)) (b.tb 1 (by decide))
  have q2 := mul_bd (l_bd h p b i hi 2 (by decide)) (b.tb 2 (by decide))
  omega
end Sx

set_option Elab.async false
set_option linter.all false
/-! Bland's rule: no corner comes round again. -/
namespace Sx
structure Cr where
  t : Tab
  T : Nat → Nat
  O : Nat → Nat
section
variable (n k : Nat) (fa : Nat → Nat → Int) (fb : Nat → Int) (E : Nat → Nat → Int)
/-- what every corner keeps -/
structure Good (C : Cr) : Prop where
  ok : C.t.Ok k
  tv : ∀ j, j < n → C.t.tv j = fa (C.T j)
  tb : ∀ j, j < n → C.t.tb j = fb (C.T j)
  pv : ∀ j, n ≤ j → j < 3 → C.t.tv j = E j
  pb : ∀ j, n ≤ j → j < 3 → C.t.tb j = 0
  pl : ∀ i, i ≤ k → ∀ j, n ≤ j → j < 3 → C.t.l i j = 0
  av : ∀ i, i < k → C.t.av i = fa (C.O i)
  bv : ∀ i, i < k → C.t.bv i = fb (C.O i)
  gv : C.t.av k = fa (n + k)
  gb : C.t.bv k = 0
  inj : ∀ j j', j < n → j' < n → C.T j = C.T j' → j = j'
  dis : ∀ j i, j < n → i < k → C.T j ≠ C.O i
  oinj : ∀ i i', i < k → i' < k → C.O i = C.O i' → i = i'
  rT : ∀ j, j < n → C.T j < n + k
  rO : ∀ i, i < k → C.O i < n + k
  cover : ∀ f, f < n + k → (∃ j, j < n ∧ C.T j = f) ∨ ∃ i, i < k ∧ C.O i = f
/-- from corner to corner -/
structure Step (C C' : Cr) (r c : Nat) (d : Int) : Prop where
  piv : Piv C.t C'.t k r c d
  cn : c < n
  row : ∀ i, i < k → C.t.L i < 0 → C.O r ≤ C.O i
  col : ∀ j, j < n → C.t.l r j < 0 → C.t.l k c * C.t.l r j = C.t.l k j * C.t.l r c → C.T c ≤ C.T j
  T' : ∀ j, j < n → C'.T j = if j = c then C.O r else C.T j
  O' : ∀ i, i < k → C'.O i = if i = r then C.T c else C.O i
end
section
variable {n k : Nat} {fa : Nat → Nat → Int} {fb : Nat → Int} {E : Nat → Nat → Int} {C C' : Cr} {r c : Nat} {d : Int}
theorem Step.good (hn : n ≤ 3) (S : Step n k C C' r c d) (G : Good n k fa fb E C) : Good n k fa fb E C' := by
  have P := S.piv
  have cn := S.cn
  have rk := P.rk
  refine ⟨P.ok G.ok, fun j hj => ?_, fun j hj => ?_, fun j h1 h2 => ?_, fun j h1 h2 => ?_, fun i hi j h1 h2 => ?_, fun i hi => ?_, fun i hi => ?_, ?_, ?_, fun j j' h1 h2 e => ?_, fun j i h1 h2 e => ?_, fun i i' h1 h2 e => ?_, fun j hj => ?_, fun i hi => ?_, fun f hf => ?_⟩
  · rw [S.T' j hj]
    split
    · rename_i z; subst z; rw [P.tc', G.av r rk]
    · rw [P.tv' j (by omega) ‹_›, G.tv j hj]
  · rw [S.T' j hj]
    split
    · rename_i z; subst z; rw [P.tbc', G.bv r rk]
    · rw [P.tb' j (by omega) ‹_›, G.tb j hj]
  · rw [P.tv' j h2 (by omega), G.pv j h1 h2]
  · rw [P.tb' j h2 (by omega), G.pb j h1 h2]
  · apply mul_cancel P.dn
    rw [Int.mul_zero]
    have z1 := G.pl i hi j h1 h2
    have z2 := G.pl r (Nat.le_of_lt rk) j h1 h2
    by_cases z : i = r
    · subst z
      rw [P.lr' j h2 (by omega), z1, Int.zero_mul]
    · rw [P.l' i hi z j h2 (by omega), z1, z2, Int.zero_mul, Int.zero_mul]; rfl
  · rw [S.O' i hi]
    split
    · rename_i z; subst z; rw [P.ar', G.tv c cn]
    · rw [P.av' i (Nat.le_of_lt hi) ‹_›, G.av i hi]
  · rw [S.O' i hi]
    split
    · rename_i z; subst z; rw [P.br', G.tb c cn]
    · rw [P.bv' i (Nat.le_of_lt hi) ‹_›, G.bv i hi]
  · rw [P.av' k (Nat.le_refl _) (by omega), G.gv]
  · rw [P.bv' k (Nat.le_refl _) (by omega), G.gb]
  · rw [S.T' j h1, S.T' j' h2] at e
    split at e <;> split at e
    · omega
    · exact absurd e.symm (G.dis _ _ h2 rk)
    · exact absurd e (G.dis _ _ h1 rk)
    · exact G.inj _ _ h1 h2 e
  · rw [S.T' j h1, S.O' i h2] at e
    split at e <;> split at e
    · exact absurd e.symm (G.dis _ _ cn rk)
    · rename_i z; exact z (G.oinj _ _ h2 rk e.symm)
    · rename_i z _; exact z (G.inj _ _ h1 cn e)
    · exact G.dis _ _ h1 h2 e
  · rw [S.O' i h1, S.O' i' h2] at e
    split at e <;> split at e
    · omega
    · exact absurd e (G.dis _ _ cn h2)
    · exact absurd e.symm (G.dis _ _ cn h1)
    · exact G.oinj _ _ h1 h2 e
  · rw [S.T' j hj]
    split
    · exact G.rO r rk
    · exact G.rT j hj
  · rw [S.O' i hi]
    split
    · exact G.rT c cn
    · exact G.rO i hi
  · rcases G.cover f hf with ⟨j, hj, e⟩ | ⟨i, hi, e⟩
    · by_cases z : j = c
      · subst z
        exact .inr ⟨r, rk, by rw [S.O' r rk, if_pos rfl, e]⟩
      · exact .inl ⟨j, hj, by rw [S.T' j hj, if_neg z, e]⟩
    · by_cases z : i = r
      · subst z
        exact .inl ⟨c, cn, by rw [S.T' c cn, if_pos rfl, e]⟩
      · exact .inr ⟨i, hi, by rw [S.O' i hi, if_neg z, e]⟩
theorem spot_row {s D bv L : Int} {a X l t0 t1 t2 b : Nat → Int} (a0 : s * a 0 + (l 0 * t0 0 + l 1 * t1 0 + l 2 * t2 0) = 0) (a1 : s * a 1 + (l 0 * t0 1 + l 1 * t1 1 + l 2 * t2 1) = 0) (a2 : s * a 2 + (l 0 * t0 2 + l 1 * t1 2 + l 2 * t2 2) = 0)
    (hb : s * bv + (l 0 * b 0 + l 1 * b 1 + l 2 * b 2) = L) (x0 : dot t0 X = D * b 0) (x1 : dot t1 X = D * b 1) (x2 : dot t2 X = D * b 2) : s * (D * bv - dot a X) = D * L := by
  unfold dot at *
  have e : s * (D * bv - (a 0 * X 0 + a 1 * X 1 + a 2 * X 2)) - D * L = D * (s * bv + (l 0 * b 0 + l 1 * b 1 + l 2 * b 2) - L) - X 0 * (s * a 0 + (l 0 * t0 0 + l 1 * t1 0 + l 2 * t2 0)) - X 1 * (s * a 1 + (l 0 * t0 1 + l 1 * t1 1 + l 2 * t2 1)) - X 2 * (s * a 2 + (l 0 * t0 2 + l 1 * t1 2 + l 2 * t2 2))
      + l 0 * (t0 0 * X 0 + t0 1 * X 1 + t0 2 * X 2 - D * b 0) + l 1 * (t1 0 * X 0 + t1 1 * X 1 + t1 2 * X 2 - D * b 1) + l 2 * (t2 0 * X 0 + t2 1 * X 1 + t2 2 * X 2 - D * b 2) := by
    clear a0 a1 a2 hb x0 x1 x2
    grind
  rw [a0, a1, a2, hb, x0, x1, x2] at e
  simp only [Int.mul_zero, Int.sub_self, Int.add_zero, Int.sub_zero] at e
  omega
/-- a spot at which all tight facts are tight -/
theorem vertex {S : Tab} (h : S.Ok k) : ∃ (X : Nat → Int) (D : Int), 0 < D ∧ (∀ j, j < 3 → dot (S.tv j) X = D * S.tb j) ∧ ∀ i, i ≤ k → S.s * (D * S.bv i - dot (S.av i) X) = D * S.L i := by
  have main : ∃ (X : Nat → Int) (D : Int), D ≠ 0 ∧ (∀ j, j < 3 → dot (S.tv j) X = D * S.tb j) := by
    refine ⟨fun u => if u = 0 then S.tb 0 * (S.tv 1 1 * S.tv 2 2 - S.tv 1 2 * S.tv 2 1) - S.tb 1 * (S.tv 0 1 * S.tv 2 2 - S.tv 0 2 * S.tv 2 1) + S.tb 2 * (S.tv 0 1 * S.tv 1 2 - S.tv 0 2 * S.tv 1 1)
      else if u = 1 then - S.tb 0 * (S.tv 1 0 * S.tv 2 2 - S.tv 1 2 * S.tv 2 0) + S.tb 1 * (S.tv 0 0 * S.tv 2 2 - S.tv 0 2 * S.tv 2 0) - S.tb 2 * (S.tv 0 0 * S.tv 1 2 - S.tv 0 2 * S.tv 1 0)
      else S.tb 0 * (S.tv 1 0 * S.tv 2 1 - S.tv 1 1 * S.tv 2 0) - S.tb 1 * (S.tv 0 0 * S.tv 2 1 - S.tv 0 1 * S.tv 2 0) + S.tb 2 * (S.tv 0 0 * S.tv 1 1 - S.tv 0 1 * S.tv 1 0), det S.tv, h.d, fun j hj => ?_⟩
    unfold dot det
    rcases lt3 hj with rfl | rfl | rfl
    · simp
      grind
    · simp
      grind
    · simp
      grind
  have fin : ∀ (X : Nat → Int) (D : Int), (∀ j, j < 3 → dot (S.tv j) X = D * S.tb j) → ∀ i, i ≤ k → S.s * (D * S.bv i - dot (S.av i) X) = D * S.L i := fun X D hX i hi => by
    exact spot_row (h.A i hi 0 (by decide)) (h.A i hi 1 (by decide)) (h.A i hi 2 (by decide)) (h.B i hi) (hX 0 (by decide)) (hX 1 (by decide)) (hX 2 (by decide))
  obtain ⟨X, D, hD, hX⟩ := main
  by_cases z : 0 < D
  · exact ⟨X, D, z, hX, fin X D hX⟩
  · have hX' : ∀ j, j < 3 → dot (S.tv j) (fun u => - X u) = (-D) * S.tb j := fun j hj => by
      have := hX j hj
      unfold dot at *
      grind
    exact ⟨fun u => - X u, -D, by omega, hX', fin _ _ hX'⟩
/-- what the corner gains falls, or stays -/
theorem Step.fall (S : Step n k C C' r c d) (G : Good n k fa fb E C) : C'.t.L k * C.t.s ≤ C.t.L k * C'.t.s ∧ (C.t.l k c ≠ 0 → C'.t.L k * C.t.s < C.t.L k * C'.t.s) := by
  have P := S.piv
  have nk : k ≠ r := Nat.ne_of_gt P.rk
  have h1 := P.L' k (Nat.le_refl _) nk
  have h2 := P.s'
  have e : d * (C'.t.L k * C.t.s - C.t.L k * C'.t.s) = - (C.t.L r) * (C.t.l k c * C.t.s) := by grind
  have g := G.ok.g c P.c3
  have s := G.ok.s
  have m := P.m
  have dn := P.dn
  have q0 : 0 ≤ C.t.l k c * C.t.s := Int.mul_nonneg g (Int.le_of_lt s)
  constructor
  · have : 0 ≤ - (C'.t.L k * C.t.s - C.t.L k * C'.t.s) := by
      apply neg_div dn
      rw [Int.mul_neg, e]
      have := Int.mul_nonneg (a := - C.t.L r) (by omega) q0
      omega
    omega
  · intro hg
    have q1 : 0 < C.t.l k c * C.t.s := Int.mul_pos (by omega) s
    have q2 : 0 < - (C.t.L r) * (C.t.l k c * C.t.s) := Int.mul_pos (by omega) q1
    rw [← e] at q2
    by_cases z : C'.t.L k * C.t.s < C.t.L k * C'.t.s
    · exact z
    · have := Int.mul_nonpos_of_nonpos_of_nonneg (Int.le_of_lt dn) (b := C'.t.L k * C.t.s - C.t.L k * C'.t.s) (by omega)
      omega
theorem frac_trans {a b c s t u : Int} (hs : 0 < s) (ht : 0 < t) (hu : 0 < u) (h1 : b * s ≤ a * t) (h2 : c * t ≤ b * u) : c * s ≤ a * u := by
  have e1 : b * s * u ≤ a * t * u := Int.mul_le_mul_of_nonneg_right h1 (Int.le_of_lt hu)
  have e2 : c * t * s ≤ b * u * s := Int.mul_le_mul_of_nonneg_right h2 (Int.le_of_lt hs)
  have e3 : t * (c * s) ≤ t * (a * u) := by
    have : t * (c * s) = c * t * s := by grind
    rw [this]
    have : t * (a * u) = a * t * u := by grind
    rw [this]
    have : b * u * s = b * s * u := by grind
    omega
  exact Int.le_of_mul_le_mul_left e3 ht
theorem same_gain {A B : Cr} (hn : n ≤ 3) (GA : Good n k fa fb E A) (GB : Good n k fa fb E B) (h : ∀ j, j < n → A.T j = B.T j) : A.t.L k * B.t.s = B.t.L k * A.t.s := by
  have tv : ∀ j, j < 3 → A.t.tv j = B.t.tv j := fun j hj => by
    by_cases z : j < n
    · rw [GA.tv j z, GB.tv j z, h j z]
    · rw [GA.pv j (by omega) hj, GB.pv j (by omega) hj]
  have tb : ∀ j, j < 3 → A.t.tb j = B.t.tb j := fun j hj => by
    by_cases z : j < n
    · rw [GA.tb j z, GB.tb j z, h j z]
    · rw [GA.pb j (by omega) hj, GB.pb j (by omega) hj]
  obtain ⟨X, D, hD, hX, hi⟩ := vertex GA.ok
  have e1 := hi k (Nat.le_refl _)
  have b0 := GB.ok.A k (Nat.le_refl _) 0 (by decide)
  have b1 := GB.ok.A k (Nat.le_refl _) 1 (by decide)
  have b2 := GB.ok.A k (Nat.le_refl _) 2 (by decide)
  have bb := GB.ok.B k (Nat.le_refl _)
  rw [GA.gb, GA.gv] at e1
  rw [GB.gv] at b0 b1 b2
  rw [GB.gb] at bb
  have x0 := hX 0 (by decide)
  have x1 := hX 1 (by decide)
  have x2 := hX 2 (by decide)
  rw [tv 0 (by decide), tb 0 (by decide)] at x0
  rw [tv 1 (by decide), tb 1 (by decide)] at x1
  rw [tv 2 (by decide), tb 2 (by decide)] at x2
  have e2 : B.t.s * (D * 0 - dot (fa (n + k)) X) = D * B.t.L k := spot_row b0 b1 b2 bb x0 x1 x2
  generalize D * 0 - dot (fa (n + k)) X = w at e1 e2
  clear hX x0 x1 x2 b0 b1 b2 bb hi
  have : D * (A.t.L k * B.t.s) = D * (B.t.L k * A.t.s) := by grind
  exact Int.eq_of_mul_eq_mul_left (by omega) this
/-- the facts that hold the corner without a weight -/
def Z (C : Cr) (n k f : Nat) : Prop := ∀ j, j < n → C.T j = f → C.t.l k j = 0
theorem Step.zero (hn : n ≤ 3) (S : Step n k C C' r c d) (G : Good n k fa fb E C) (h0 : C.t.l k c = 0) (f : Nat) : Z C n k f ↔ Z C' n k f := by
  have P := S.piv
  have nk : k ≠ r := Nat.ne_of_gt P.rk
  have kc : C'.t.l k c = 0 := by
    apply mul_cancel P.dn
    rw [P.lc' k (Nat.le_refl _) nk, h0]; simp
  have kj : ∀ j, j < 3 → j ≠ c → (C.t.l k j = 0 ↔ C'.t.l k j = 0) := fun j hj hc => by
    have e := P.l' k (Nat.le_refl _) nk j hj hc
    rw [h0, Int.mul_zero, Int.sub_zero] at e
    have p := P.p
    have dn := P.dn
    constructor
    · intro z
      rw [z, Int.zero_mul] at e
      exact (Int.mul_eq_zero.mp e).resolve_left (by omega)
    · intro z
      rw [z, Int.mul_zero] at e
      exact (Int.mul_eq_zero.mp e.symm).resolve_right (by omega)
  constructor
  · intro h j hj e
    rw [S.T' j hj] at e
    split at e
    · rename_i z; rw [z]; exact kc
    · exact (kj j (by omega) ‹_›).mp (h j hj e)
  · intro h j hj e
    by_cases z : j = c
    · rw [z]; exact h0
    · exact (kj j (by omega) z).mpr (h j hj (by rw [S.T' j hj, if_neg z]; exact e))
end
end Sx

set_option Elab.async false
set_option linter.all false
namespace Sx
def inT (n : Nat) (C : Cr) (f : Nat) : Prop := ∃ j, j < n ∧ C.T j = f
section
variable {n k : Nat} {fa : Nat → Nat → Int} {fb : Nat → Int} {E : Nat → Nat → Int}
theorem Step.mem {C C' : Cr} {r c : Nat} {d : Int} (S : Step n k C C' r c d) (G : Good n k fa fb E C) (f : Nat) : inT n C' f ↔ f = C.O r ∨ (inT n C f ∧ f ≠ C.T c) := by
  constructor
  · rintro ⟨j, hj, e⟩
    rw [S.T' j hj] at e
    split at e
    · exact .inl e.symm
    · rename_i z
      exact .inr ⟨⟨j, hj, e⟩, fun q => z (G.inj _ _ hj S.cn (e.trans q))⟩
  · rintro (e | ⟨⟨j, hj, e⟩, q⟩)
    · exact ⟨_, S.cn, by rw [S.T' _ S.cn, if_pos rfl, e]⟩
    · have : j ≠ c := fun z => by subst z; exact q e.symm
      exact ⟨j, hj, by rw [S.T' j hj, if_neg this, e]⟩
variable {tr : Nat → Cr} {r c : Nat → Nat} {d : Nat → Int} {a b : Nat}
theorem enters (G : ∀ x, a ≤ x → x ≤ b → Good n k fa fb E (tr x)) (S : ∀ x, a ≤ x → x < b → Step n k (tr x) (tr (x + 1)) (r x) (c x) (d x)) {x : Nat} (hx : a ≤ x) (f : Nat) (h1 : ¬ inT n (tr x) f) : ∀ m, x + m ≤ b → inT n (tr (x + m)) f → ∃ w, x ≤ w ∧ w < x + m ∧ (tr w).O (r w) = f
  | 0, _, h => absurd h h1
  | m + 1, hb, h => by
    by_cases z : inT n (tr (x + m)) f
    · obtain ⟨w, q1, q2, q3⟩ := enters G S hx f h1 m (by omega) z
      exact ⟨w, q1, by omega, q3⟩
    · rcases ((S (x + m) (by omega) (by omega)).mem (G (x + m) (by omega) (by omega)) f).mp h with e | ⟨e, _⟩
      · exact ⟨x + m, by omega, by omega, e.symm⟩
      · exact absurd e z
theorem leaves (G : ∀ x, a ≤ x → x ≤ b → Good n k fa fb E (tr x)) (S : ∀ x, a ≤ x → x < b → Step n k (tr x) (tr (x + 1)) (r x) (c x) (d x)) {x : Nat} (hx : a ≤ x) (f : Nat) (h1 : inT n (tr x) f) : ∀ m, x + m ≤ b → ¬ inT n (tr (x + m)) f → ∃ w, x ≤ w ∧ w < x + m ∧ (tr w).T (c w) = f
  | 0, _, h => absurd h1 h
  | m + 1, hb, h => by
    by_cases z : inT n (tr (x + m)) f
    · refine ⟨x + m, by omega, by omega, ?_⟩
      by_cases q : f = (tr (x + m)).T (c (x + m))
      · exact q.symm
      · exact absurd (((S (x + m) (by omega) (by omega)).mem (G (x + m) (by omega) (by omega)) f).mpr (.inr ⟨z, q⟩)) h
    · obtain ⟨w, q1, q2, q3⟩ := leaves G S hx f h1 m (by omega) z
      exact ⟨w, q1, by omega, q3⟩
theorem max_at (e : Nat → Nat) {a : Nat} : ∀ {b : Nat}, a < b → ∃ q, a ≤ q ∧ q < b ∧ ∀ x, a ≤ x → x < b → e x ≤ e q
  | b + 1, h => by
    by_cases z : a < b
    · obtain ⟨q, h1, h2, h3⟩ := max_at e z
      by_cases y : e q ≤ e b
      · exact ⟨b, by omega, by omega, fun x hx hb => by
          by_cases w : x = b
          · rw [w]; exact Nat.le_refl _
          · have := h3 x hx (by omega); omega⟩
      · exact ⟨q, h1, by omega, fun x hx hb => by
          by_cases w : x = b
          · rw [w]; omega
          · exact h3 x hx (by omega)⟩
    · exact ⟨b, by omega, by omega, fun x hx hb => by
        have : x = b := by omega
        rw [this]; exact Nat.le_refl _⟩
theorem sum3_neg {l W : Nat → Int} {c : Nat} (hc : c < 3) (h : l 0 * W 0 + l 1 * W 1 + l 2 * W 2 < 0) (hp : 0 < l c * W c) : ∃ j, j < 3 ∧ j ≠ c ∧ l j * W j < 0 := by
  by_cases z0 : c ≠ 0 ∧ l 0 * W 0 < 0
  · exact ⟨0, by decide, z0.1.symm, z0.2⟩
  · by_cases z1 : c ≠ 1 ∧ l 1 * W 1 < 0
    · exact ⟨1, by decide, z1.1.symm, z1.2⟩
    · by_cases z2 : c ≠ 2 ∧ l 2 * W 2 < 0
      · exact ⟨2, by decide, z2.1.symm, z2.2⟩
      · exfalso
        rcases lt3 hc with rfl | rfl | rfl
        · simp at z0 z1 z2; omega
        · simp at z0 z1 z2; omega
        · simp at z0 z1 z2; omega
/-- no corner comes round again -/
theorem bland (hn : n ≤ 3) (hab : a < b) (G : ∀ x, a ≤ x → x ≤ b → Good n k fa fb E (tr x)) (S : ∀ x, a ≤ x → x < b → Step n k (tr x) (tr (x + 1)) (r x) (c x) (d x)) (same : ∀ j, j < n → (tr a).T j = (tr b).T j) : False := by
  -- the gain stays
  have sp : ∀ x, a ≤ x → x ≤ b → 0 < (tr x).t.s := fun x h1 h2 => (G x h1 h2).ok.s
  have fall : ∀ x, a ≤ x → ∀ m, x + m ≤ b → (tr (x + m)).t.L k * (tr x).t.s ≤ (tr x).t.L k * (tr (x + m)).t.s := fun x hx m => by
    induction m with
    | zero => intro _; exact Int.le_refl _
    | succ m ih =>
      intro hb
      exact frac_trans (sp x hx (by omega)) (sp (x + m) (by omega) (by omega)) (sp (x + (m + 1)) (by omega) (by omega)) (ih (by omega)) (((S (x + m) (by omega) (by omega)).fall (G (x + m) (by omega) (by omega))).1)
  have deg : ∀ x, a ≤ x → x < b → (tr x).t.l k (c x) = 0 := fun x h1 h2 => by
    apply Classical.byContradiction
    intro z
    have f1 := ((S x h1 h2).fall (G x h1 (by omega))).2 z
    have f0 := fall a (Nat.le_refl _) (x - a) (by omega)
    rw [show a + (x - a) = x by omega] at f0
    have f2 := fall (x + 1) (by omega) (b - (x + 1)) (by omega)
    rw [show x + 1 + (b - (x + 1)) = b by omega] at f2
    have e := same_gain hn (G a (Nat.le_refl _) (by omega)) (G b (by omega) (Nat.le_refl _)) same
    -- z_a >= z_x > z_x+1 >= z_b = z_a
    have g1 := frac_trans (sp (x + 1) (by omega) (by omega)) (sp b (by omega) (Nat.le_refl _)) (sp a (Nat.le_refl _) (by omega)) f2 (by rw [e]; exact Int.le_refl _)
    have g2 := frac_trans (sp (x + 1) (by omega) (by omega)) (sp a (Nat.le_refl _) (by omega)) (sp x h1 (by omega)) g1 f0
    omega
  have zero : ∀ x, a ≤ x → ∀ m, x + m ≤ b → ∀ f, Z (tr x) n k f ↔ Z (tr (x + m)) n k f := fun x hx m => by
    induction m with
    | zero => intro _ f; exact Iff.rfl
    | succ m ih =>
      intro hb f
      exact (ih (by omega) f).trans ((S (x + m) (by omega) (by omega)).zero hn (G (x + m) (by omega) (by omega)) (deg (x + m) (by omega) (by omega)) f)
  have zero' : ∀ x y, a ≤ x → x ≤ b → a ≤ y → y ≤ b → ∀ f, Z (tr x) n k f ↔ Z (tr y) n k f := fun x y h1 h2 h3 h4 f => by
    have q1 := zero a (Nat.le_refl _) (x - a) (by omega) f
    have q2 := zero a (Nat.le_refl _) (y - a) (by omega) f
    rw [show a + (x - a) = x by omega] at q1
    rw [show a + (y - a) = y by omega] at q2
    exact q1.symm.trans q2
  have sameT : ∀ f, inT n (tr a) f ↔ inT n (tr b) f := fun f => ⟨fun ⟨j, hj, e⟩ => ⟨j, hj, (same j hj).symm.trans e⟩, fun ⟨j, hj, e⟩ => ⟨j, hj, (same j hj).trans e⟩⟩
  -- whatever is tight here and not there comes in somewhere
  have fickle : ∀ x y, a ≤ x → x ≤ b → a ≤ y → y ≤ b → ∀ f, inT n (tr x) f → ¬ inT n (tr y) f → ∃ w, a ≤ w ∧ w < b ∧ (tr w).O (r w) = f := fun x y h1 h2 h3 h4 f hx hy => by
    by_cases z : y ≤ x
    · obtain ⟨w, q1, q2, q3⟩ := enters G S h3 f hy (x - y) (by omega) (by rw [show y + (x - y) = x by omega]; exact hx)
      exact ⟨w, by omega, by omega, q3⟩
    · by_cases zb : inT n (tr b) f
      · obtain ⟨w, q1, q2, q3⟩ := enters G S h3 f hy (b - y) (by omega) (by rw [show y + (b - y) = b by omega]; exact zb)
        exact ⟨w, by omega, by omega, q3⟩
      · have za : ¬ inT n (tr a) f := fun q => zb ((sameT f).mp q)
        obtain ⟨w, q1, q2, q3⟩ := enters G S (Nat.le_refl a) f za (x - a) (by omega) (by rw [show a + (x - a) = x by omega]; exact hx)
        exact ⟨w, by omega, by omega, q3⟩
  -- the last fact of those that come in
  obtain ⟨q, qa, qb, hmax⟩ := max_at (fun x => (tr x).O (r x)) hab
  have Sq := S q qa qb
  have Gq := G q qa (by omega)
  have Pq := Sq.piv
  generalize ht : (tr q).O (r q) = t at *
  have tq : ¬ inT n (tr q) t := fun ⟨j, hj, e⟩ => Gq.dis j (r q) hj Pq.rk (e.trans ht.symm)
  have tq1 : inT n (tr (q + 1)) t := (Sq.mem Gq t).mpr (.inl ht.symm)
  obtain ⟨p, pa, pb, hp⟩ : ∃ p, a ≤ p ∧ p < b ∧ (tr p).T (c p) = t := by
    by_cases zb : inT n (tr b) t
    · obtain ⟨w, q1, q2, q3⟩ := leaves G S (Nat.le_refl a) t ((sameT t).mpr zb) (q - a) (by omega) (by rw [show a + (q - a) = q by omega]; exact tq)
      exact ⟨w, by omega, by omega, q3⟩
    · obtain ⟨w, q1, q2, q3⟩ := leaves G S (x := q + 1) (by omega) t tq1 (b - (q + 1)) (by omega) (by rw [show q + 1 + (b - (q + 1)) = b by omega]; exact zb)
      exact ⟨w, by omega, by omega, q3⟩
  have Sp := S p pa pb
  have Gp := G p pa (by omega)
  have Pp := Sp.piv
  -- the spot at q
  obtain ⟨X, D, hD, hX, hi⟩ := vertex Gq.ok
  have wT : ∀ f, inT n (tr q) f → D * fb f - dot (fa f) X = 0 := fun f ⟨j, hj, e⟩ => by
    have := hX j (by omega)
    rw [Gq.tv j hj, Gq.tb j hj, e] at this
    omega
  have wO : ∀ i, i < k → (tr q).t.s * (D * fb ((tr q).O i) - dot (fa ((tr q).O i)) X) = D * (tr q).t.L i := fun i h => by
    have := hi i (by omega)
    rw [Gq.av i h, Gq.bv i h] at this
    exact this
  have wlt : ∀ f, f < n + k → f < t → 0 ≤ D * fb f - dot (fa f) X := fun f hf hlt => by
    rcases Gq.cover f hf with z | ⟨i, h, e⟩
    · rw [wT f z]; exact Int.le_refl _
    · have L0 : 0 ≤ (tr q).t.L i := by
        apply Classical.byContradiction
        intro z
        have := Sq.row i h (by omega)
        rw [ht, e] at this
        omega
      have e2 := wO i h
      rw [e] at e2
      have : 0 ≤ (tr q).t.s * (D * fb f - dot (fa f) X) := by rw [e2]; exact Int.mul_nonneg (Int.le_of_lt hD) L0
      apply Classical.byContradiction
      intro z
      have := Int.mul_neg_of_pos_of_neg (sp q qa (by omega)) (Int.not_le.mp z)
      omega
  have wt : D * fb t - dot (fa t) X < 0 := by
    have e2 := wO (r q) Pq.rk
    rw [ht] at e2
    have : (tr q).t.s * (D * fb t - dot (fa t) X) < 0 := by rw [e2]; exact Int.mul_neg_of_pos_of_neg hD Pq.m
    apply Classical.byContradiction
    intro z
    have := Int.mul_nonneg (Int.le_of_lt (sp q qa (by omega))) (Int.not_lt.mp z)
    omega
  -- at p
  have sin : (tr p).O (r p) < t := by
    have h1 := hmax p pa pb
    have h1 : (tr p).O (r p) ≤ t := h1
    have h2 := Gp.dis (c p) (r p) Sp.cn Pp.rk
    rw [hp] at h2
    omega
  have row : (tr p).t.s * (D * fb ((tr p).O (r p)) - dot (fa ((tr p).O (r p))) X) + ((tr p).t.l (r p) 0 * (D * (tr p).t.tb 0 - dot ((tr p).t.tv 0) X) + (tr p).t.l (r p) 1 * (D * (tr p).t.tb 1 - dot ((tr p).t.tv 1) X) + (tr p).t.l (r p) 2 * (D * (tr p).t.tb 2 - dot ((tr p).t.tv 2) X)) = D * (tr p).t.L (r p) := by
    have hr := Nat.le_of_lt Pp.rk
    have a0 := Gp.ok.A (r p) hr 0 (by decide)
    have a1 := Gp.ok.A (r p) hr 1 (by decide)
    have a2 := Gp.ok.A (r p) hr 2 (by decide)
    have b0 := Gp.ok.B (r p) hr
    rw [Gp.av (r p) Pp.rk] at a0 a1 a2
    rw [Gp.bv (r p) Pp.rk] at b0
    generalize (tr p).t = Y at a0 a1 a2 b0
    generalize fa ((tr p).O (r p)) = av at *
    generalize fb ((tr p).O (r p)) = bv at *
    generalize r p = i at *
    unfold dot
    have e : Y.s * (D * bv - (av 0 * X 0 + av 1 * X 1 + av 2 * X 2)) + (Y.l i 0 * (D * Y.tb 0 - (Y.tv 0 0 * X 0 + Y.tv 0 1 * X 1 + Y.tv 0 2 * X 2)) + Y.l i 1 * (D * Y.tb 1 - (Y.tv 1 0 * X 0 + Y.tv 1 1 * X 1 + Y.tv 1 2 * X 2)) + Y.l i 2 * (D * Y.tb 2 - (Y.tv 2 0 * X 0 + Y.tv 2 1 * X 1 + Y.tv 2 2 * X 2)))
       = D * (Y.s * bv + (Y.l i 0 * Y.tb 0 + Y.l i 1 * Y.tb 1 + Y.l i 2 * Y.tb 2)) - X 0 * (Y.s * av 0 + (Y.l i 0 * Y.tv 0 0 + Y.l i 1 * Y.tv 1 0 + Y.l i 2 * Y.tv 2 0)) - X 1 * (Y.s * av 1 + (Y.l i 0 * Y.tv 0 1 + Y.l i 1 * Y.tv 1 1 + Y.l i 2 * Y.tv 2 1)) - X 2 * (Y.s * av 2 + (Y.l i 0 * Y.tv 0 2 + Y.l i 1 * Y.tv 1 2 + Y.l i 2 * Y.tv 2 2)) := by
      clear a0 a1 a2 b0
      grind
    rw [e, a0, a1, a2, b0]
    simp
  have w0 := Int.mul_nonneg (Int.le_of_lt (sp p pa (by omega))) (wlt _ (Gp.rO (r p) Pp.rk) sin)
  have DL := Int.mul_neg_of_pos_of_neg hD Pp.m
  have wc : D * (tr p).t.tb (c p) - dot ((tr p).t.tv (c p)) X < 0 := by
    rw [Gp.tv _ Sp.cn, Gp.tb _ Sp.cn, hp]
    exact wt
  obtain ⟨j, hj, hjc, hneg⟩ := sum3_neg (l := (tr p).t.l (r p)) (W := fun j => D * (tr p).t.tb j - dot ((tr p).t.tv j) X) Pp.c3 (by
    show (tr p).t.l (r p) 0 * (D * (tr p).t.tb 0 - dot ((tr p).t.tv 0) X) + (tr p).t.l (r p) 1 * (D * (tr p).t.tb 1 - dot ((tr p).t.tv 1) X) + (tr p).t.l (r p) 2 * (D * (tr p).t.tb 2 - dot ((tr p).t.tv 2) X) < 0
    omega) (Int.mul_pos_of_neg_of_neg Pp.p wc)
  have jn : j < n := by
    apply Classical.byContradiction
    intro z
    rw [Gp.pl (r p) (Nat.le_of_lt Pp.rk) j (by omega) hj, Int.zero_mul] at hneg
    omega
  have hneg : (tr p).t.l (r p) j * (D * (tr p).t.tb j - dot ((tr p).t.tv j) X) < 0 := hneg
  rw [Gp.tv j jn, Gp.tb j jn] at hneg
  generalize hf : (tr p).T j = f at hneg
  have fq : ¬ inT n (tr q) f := fun z => by
    rw [wT f z, Int.mul_zero] at hneg
    omega
  obtain ⟨w, wa, wb, we⟩ := fickle p q pa (by omega) qa (by omega) f ⟨j, jn, hf⟩ fq
  have fle : f ≤ t := by rw [← we]; exact hmax w wa wb
  have fne : f ≠ t := fun z => hjc (Gp.inj j (c p) jn Sp.cn (by rw [hf, hp, z]))
  have wf := wlt f (by rw [← hf]; exact Gp.rT j jn) (by omega)
  have lneg : (tr p).t.l (r p) j < 0 := by
    apply Classical.byContradiction
    intro z
    have := Int.mul_nonneg (Int.not_lt.mp z) wf
    omega
  have gj : (tr p).t.l k j = 0 := (zero' p q pa (by omega) qa (by omega) f).mpr (fun j' hj' e => absurd ⟨j', hj', e⟩ fq) j jn hf
  have tie := Sp.col j jn lneg (by rw [gj, deg p pa pb, Int.zero_mul, Int.zero_mul])
  rw [hp, hf] at tie
  omega
end
/-! ### few corners -/
theorem pigeon : ∀ (N : Nat) (e : Nat → Nat), (∀ x, x ≤ N → e x < N) → ∃ a b, a < b ∧ b ≤ N ∧ e a = e b
  | 0, e, h => absurd (h 0 (Nat.le_refl _)) (by omega)
  | N + 1, e, h => by
    by_cases z : ∃ a, a ≤ N ∧ e a = e (N + 1)
    · obtain ⟨a, h1, h2⟩ := z
      exact ⟨a, N + 1, by omega, by omega, h2⟩
    · have ne : ∀ a, a ≤ N → e a ≠ e (N + 1) := fun a h1 h2 => z ⟨a, h1, h2⟩
      obtain ⟨a, b, h1, h2, h3⟩ := pigeon N (fun x => if e x = N then e (N + 1) else e x) (fun x hx => by
        show (if e x = N then e (N + 1) else e x) < N
        have h1 := h x (by omega)
        have h2 := h (N + 1) (Nat.le_refl _)
        have h3 := ne x hx
        split <;> omega)
      refine ⟨a, b, h1, by omega, ?_⟩
      have h3 : (if e a = N then e (N + 1) else e a) = if e b = N then e (N + 1) else e b := h3
      have n1 := ne a (by omega)
      have n2 := ne b (by omega)
      split at h3 <;> split at h3 <;> omega
/-- so the corners come to an end -/
theorem ends {n k M : Nat} {fa : Nat → Nat → Int} {fb : Nat → Int} {E : Nat → Nat → Int} {tr : Nat → Cr} {r c : Nat → Nat} {d : Nat → Int} (hn : n ≤ 3) (hMp : 0 < M) (hM : n + k ≤ M) (G : ∀ x, x ≤ M ^ 3 → Good n k fa fb E (tr x)) (S : ∀ x, x < M ^ 3 → Step n k (tr x) (tr (x + 1)) (r x) (c x) (d x)) : False := by
  have key : ∀ x j, (if j < n then (tr x).T j else 0) < M ∨ M ^ 3 < x := fun x j => by
    by_cases z : x ≤ M ^ 3
    · left
      split
      · have := (G x z).rT j ‹_›; omega
      · exact hMp
    · right; omega
  obtain ⟨a, b, h1, h2, h3⟩ := pigeon (M ^ 3) (fun x => ((if 0 < n then (tr x).T 0 else 0) * M + (if 1 < n then (tr x).T 1 else 0)) * M + (if 2 < n then (tr x).T 2 else 0)) (fun x hx => by
    have k0 := (key x 0).resolve_right (by omega)
    have k1 := (key x 1).resolve_right (by omega)
    have k2 := (key x 2).resolve_right (by omega)
    show ((if 0 < n then (tr x).T 0 else 0) * M + (if 1 < n then (tr x).T 1 else 0)) * M + (if 2 < n then (tr x).T 2 else 0) < M ^ 3
    generalize (if 0 < n then (tr x).T 0 else 0) = x0 at *
    generalize (if 1 < n then (tr x).T 1 else 0) = x1 at *
    generalize (if 2 < n then (tr x).T 2 else 0) = x2 at *
    have e1 : x0 * M + x1 + 1 ≤ M * M := by
      have : (x0 + 1) * M ≤ M * M := Nat.mul_le_mul_right _ k0
      rw [Nat.add_mul, Nat.one_mul] at this
      omega
    have e2 : (x0 * M + x1 + 1) * M ≤ M * M * M := Nat.mul_le_mul_right _ e1
    have e3 : M ^ 3 = M * M * M := by rw [Nat.pow_succ, Nat.pow_succ, Nat.pow_one]
    rw [Nat.add_mul _ 1, Nat.one_mul] at e2
    omega)
  have dec : ∀ {x y u v : Nat}, y < M → v < M → x * M + y = u * M + v → x = u ∧ y = v := fun {x y u v} hy hv e => by
    have h1 : (x * M + y) / M = x := by rw [Nat.add_comm, Nat.add_mul_div_right _ _ hMp, Nat.div_eq_of_lt hy, Nat.zero_add]
    have h2 : (u * M + v) / M = u := by rw [Nat.add_comm, Nat.add_mul_div_right _ _ hMp, Nat.div_eq_of_lt hv, Nat.zero_add]
    rw [e, h2] at h1
    subst h1
    exact ⟨rfl, by omega⟩
  obtain ⟨e1, e2⟩ := dec ((key a 2).resolve_right (by omega)) ((key b 2).resolve_right (by omega)) h3
  obtain ⟨e3, e4⟩ := dec ((key a 1).resolve_right (by omega)) ((key b 1).resolve_right (by omega)) e1
  refine bland (a := a) (b := b) hn h1 (fun x _ hx => G x (by omega)) (fun x _ hx => S x (by omega)) fun j hj => ?_
  have : j = 0 ∨ j = 1 ∨ j = 2 := by omega
  rcases this with rfl | rfl | rfl
  · rw [if_pos hj, if_pos hj] at e3; exact e3
  · rw [if_pos hj, if_pos hj] at e4; exact e4
  · rw [if_pos hj, if_pos hj] at e2; exact e2
end Sx

set_option Elab.async false
set_option linter.all false
set_option maxRecDepth 100000
/-! Corners as lists. -/
namespace Sx
open _root_.Tab
abbrev Fcs := List (List Int × Int)
structure LC where
  T : List Nat
  O : List Nat
  t : Tb
  s : Int
def fvec (fs : Fcs) (gain : List Int) (f u : Nat) : Int := if f < fs.length then ((fs.getD f ([], 0)).1).getD u 0 else -(gain.getD u 0)
def fbd (fs : Fcs) (f : Nat) : Int := (fs.getD f ([], 0)).2
def unitE (j u : Nat) : Int := if j = u then 1 else 0
def LC.tab (c : LC) (n k : Nat) (fs : Fcs) (gain : List Int) : Tab where
  s := c.s
  l := fun i j => if j < n then cel c.t i j else 0
  L := fun i => cel c.t i n
  tv := fun j => if j < n then fvec fs gain (c.T.getD j 0) else unitE j
  tb := fun j => if j < n then fbd fs (c.T.getD j 0) else 0
  av := fun i => if i < k then fvec fs gain (c.O.getD i 0) else fvec fs gain (n + k)
  bv := fun i => if i < k then fbd fs (c.O.getD i 0) else 0
def LC.cr (c : LC) (n k : Nat) (fs : Fcs) (gain : List Int) : Cr := ⟨c.tab n k fs gain, fun j => c.T.getD j 0, fun i => c.O.getD i 0⟩
structure LC.Wf (c : LC) (n k : Nat) : Prop where
  T : c.T.length = n
  O : c.O.length = k
  t : Rect (k + 1) (n + 1) c.t
abbrev LC.Good (c : LC) (n k : Nat) (fs : Fcs) (gain : List Int) : Prop := Sx.Good n k (fvec fs gain) (fbd fs) unitE (c.cr n k fs gain)
def LC.next (c : LC) (r q : Nat) : LC := ⟨c.T.set q (c.O.getD r 0), c.O.set r (c.T.getD q 0), turnT c.t c.s r q, turnS c.t c.s r q⟩
section
variable {c : LC} {n k r q : Nat} {fs : Fcs} {gain : List Int}
theorem getD_set {l : List Nat} {i j x : Nat} (h : i < l.length) : (l.set i x).getD j 0 = if j = i then x else l.getD j 0 := by
  rw [List.getD_eq_getElem?_getD, List.getD_eq_getElem?_getD]
  by_cases e : j = i
  · subst e; rw [List.getElem?_set_self h, if_pos rfl]; rfl
  · rw [List.getElem?_set_ne (fun z => e z.symm), if_neg e]
/-- the rules by which row and column are taken -/
structure Picks (c : LC) (n k r q : Nat) : Prop where
  hr : r < k
  hq : q < n
  m : cel c.t r n < 0
  p : cel c.t r q < 0
  row : ∀ i, i < k → cel c.t i n < 0 → c.O.getD r 0 ≤ c.O.getD i 0
  best : ∀ j, j < n → cel c.t r j < 0 → cel c.t k q * cel c.t r j ≥ cel c.t k j * cel c.t r q
  tie : ∀ j, j < n → cel c.t r j < 0 → cel c.t k q * cel c.t r j = cel c.t k j * cel c.t r q → c.T.getD q 0 ≤ c.T.getD j 0
theorem next_step (hn : n ≤ 3) (W : c.Wf n k) (hs : 0 < c.s) (P : Picks c n k r q) : (c.next r q).Wf n k ∧ (∃ d, Step n k (c.cr n k fs gain) ((c.next r q).cr n k fs gain) r q d) ∧ Prim ((c.next r q).tab n k fs gain) k := by
  have hr := P.hr
  have hq := P.hq
  have hp := P.p
  have hm := P.m
  obtain ⟨d, d0, ds, s1, RR, ce, pr⟩ := turn_cel (r := r) (c := q) (s := c.s) W.t (by omega) (by omega) (by omega) (show cel c.t r q ≠ 0 by omega)
  have dn : d < 0 := by
    have h1 : c.s * cel c.t r q < 0 := Int.mul_neg_of_pos_of_neg hs hp
    rw [← ds] at h1
    apply Classical.byContradiction
    intro z
    have := Int.mul_nonneg (Int.not_lt.mp z) (Int.le_trans (by decide) s1)
    omega
  refine ⟨⟨by unfold LC.next; rw [List.length_set]; exact W.T, by unfold LC.next; rw [List.length_set]; exact W.O, RR⟩, ⟨d, ⟨?_, hq, fun i hi h => P.row i hi h, fun j hj h e => ?_, fun j hj => ?_, fun i hi => ?_⟩⟩, ?_⟩
  · refine ⟨hr, by omega, ?_, hm, dn, fun j hj h => ?_, ?_, fun i hi ne j hj ne2 => ?_, fun i hi ne => ?_, fun j hj ne => ?_, ?_, fun i hi ne => ?_, ?_, fun j hj ne => ?_, ?_, fun j hj ne => ?_, ?_, fun i hi ne => ?_, ?_, fun i hi ne => ?_, ?_⟩
    · show (if q < n then cel c.t r q else 0) < 0
      rw [if_pos hq]; exact hp
    · have h : (if j < n then cel c.t r j else 0) < 0 := h
      show (if q < n then cel c.t k q else 0) * (if j < n then cel c.t r j else 0) ≥ (if j < n then cel c.t k j else 0) * (if q < n then cel c.t r q else 0)
      split at h
      · rename_i z
        rw [if_pos hq, if_pos z, if_pos z, if_pos hq]
        exact P.best j z h
      · omega
    · show d * turnS c.t c.s r q = c.s * (if q < n then cel c.t r q else 0)
      rw [if_pos hq]; exact ds
    · show d * (if j < n then cel (turnT c.t c.s r q) i j else 0) = (if j < n then cel c.t i j else 0) * (if q < n then cel c.t r q else 0) - (if j < n then cel c.t r j else 0) * (if q < n then cel c.t i q else 0)
      rw [if_pos hq, if_pos hq]
      split
      · rw [ce i j (by omega) (by omega), if_neg ne, if_neg ne2]
      · simp
    · show d * (if q < n then cel (turnT c.t c.s r q) i q else 0) = -(if q < n then cel c.t i q else 0) * c.s
      rw [if_pos hq, if_pos hq, ce i q (by omega) (by omega), if_neg ne, if_pos rfl]
    · show d * (if j < n then cel (turnT c.t c.s r q) r j else 0) = (if j < n then cel c.t r j else 0) * c.s
      split
      · rw [ce r j (by omega) (by omega), if_pos rfl, if_neg ne]
      · simp
    · show d * (if q < n then cel (turnT c.t c.s r q) r q else 0) = c.s * c.s
      rw [if_pos hq, ce r q (by omega) (by omega), if_pos rfl, if_pos rfl]
    · show d * cel (turnT c.t c.s r q) i n = cel c.t i n * (if q < n then cel c.t r q else 0) - cel c.t r n * (if q < n then cel c.t i q else 0)
      rw [if_pos hq, if_pos hq, ce i n (by omega) (by omega), if_neg ne, if_neg (by omega)]
    · show d * cel (turnT c.t c.s r q) r n = cel c.t r n * c.s
      rw [ce r n (by omega) (by omega), if_pos rfl, if_neg (by omega)]
    · show (if j < n then fvec fs gain ((c.T.set q (c.O.getD r 0)).getD j 0) else unitE j) = if j < n then fvec fs gain (c.T.getD j 0) else unitE j
      rw [getD_set (by rw [W.T]; exact hq), if_neg ne]
    · show (if q < n then fvec fs gain ((c.T.set q (c.O.getD r 0)).getD q 0) else unitE q) = if r < k then fvec fs gain (c.O.getD r 0) else _
      rw [getD_set (by rw [W.T]; exact hq), if_pos rfl, if_pos hq, if_pos hr]
    · show (if j < n then fbd fs ((c.T.set q (c.O.getD r 0)).getD j 0) else 0) = if j < n then fbd fs (c.T.getD j 0) else 0
      rw [getD_set (by rw [W.T]; exact hq), if_neg ne]
    · show (if q < n then fbd fs ((c.T.set q (c.O.getD r 0)).getD q 0) else 0) = if r < k then fbd fs (c.O.getD r 0) else _
      rw [getD_set (by rw [W.T]; exact hq), if_pos rfl, if_pos hq, if_pos hr]
    · show (if i < k then fvec fs gain ((c.O.set r (c.T.getD q 0)).getD i 0) else _) = if i < k then fvec fs gain (c.O.getD i 0) else _
      rw [getD_set (by rw [W.O]; exact hr), if_neg ne]
    · show (if r < k then fvec fs gain ((c.O.set r (c.T.getD q 0)).getD r 0) else _) = if q < n then fvec fs gain (c.T.getD q 0) else _
      rw [getD_set (by rw [W.O]; exact hr), if_pos rfl, if_pos hq, if_pos hr]
    · show (if i < k then fbd fs ((c.O.set r (c.T.getD q 0)).getD i 0) else _) = if i < k then fbd fs (c.O.getD i 0) else _
      rw [getD_set (by rw [W.O]; exact hr), if_neg ne]
    · show (if r < k then fbd fs ((c.O.set r (c.T.getD q 0)).getD r 0) else _) = if q < n then fbd fs (c.T.getD q 0) else _
      rw [getD_set (by rw [W.O]; exact hr), if_pos rfl, if_pos hq, if_pos hr]
  · have h : (if j < n then cel c.t r j else 0) < 0 := h
    have e : (if q < n then cel c.t k q else 0) * (if j < n then cel c.t r j else 0) = (if j < n then cel c.t k j else 0) * (if q < n then cel c.t r q else 0) := e
    rw [if_pos hj] at h
    rw [if_pos hj, if_pos hq, if_pos hj, if_pos hq] at e
    exact P.tie j hj h e
  · exact getD_set (by rw [W.T]; exact hq)
  · exact getD_set (by rw [W.O]; exact hr)
  · intro e h1 h2 h3
    refine pr e h1 fun i j hi hj => ?_
    by_cases z : j = n
    · rw [z]; exact h3 i (by omega)
    · have := h2 i (by omega) j (by omega)
      have this : e ∣ (if j < n then cel (turnT c.t c.s r q) i j else 0) := this
      rw [if_pos (by omega)] at this
      exact this
/-! ### the walk -/
/-- what every corner of a walk keeps -/
structure LC.Inv (c : LC) (n k : Nat) (fs : Fcs) (gain : List Int) : Prop where
  wf : c.Wf n k
  good : c.Good n k fs gain
  prim : Prim (c.tab n k fs gain) k
theorem LC.Inv.next (h : c.Inv n k fs gain) (hn : n ≤ 3) (P : Picks c n k r q) : (c.next r q).Inv n k fs gain := by
  obtain ⟨w, ⟨d, st⟩, p⟩ := next_step (fs := fs) (gain := gain) hn h.wf h.good.ok.s P
  exact ⟨w, st.good hn h.good, p⟩
/-- a walk of m corners ends here -/
def Walk (n k : Nat) (fs : Fcs) (gain : List Int) (m : Nat) (c : LC) : Prop := ∃ tr : Nat → LC, tr m = c ∧ (∀ x, x ≤ m → (tr x).Inv n k fs gain) ∧ ∀ x, x < m → ∃ r q, Picks (tr x) n k r q ∧ tr (x + 1) = (tr x).next r q
theorem Walk.start (h : c.Inv n k fs gain) : Walk n k fs gain 0 c := ⟨fun _ => c, rfl, fun _ _ => h, fun x hx => absurd hx (by omega)⟩
theorem Walk.inv {m : Nat} (w : Walk n k fs gain m c) : c.Inv n k fs gain := by
  obtain ⟨tr, e, h, _⟩ := w
  rw [← e]; exact h m (Nat.le_refl _)
theorem Walk.next {m : Nat} (w : Walk n k fs gain m c) (hn : n ≤ 3) (P : Picks c n k r q) : Walk n k fs gain (m + 1) (c.next r q) := by
  have i1 := w.inv.next hn P
  obtain ⟨tr, e, h, st⟩ := w
  refine ⟨fun x => if x ≤ m then tr x else c.next r q, if_neg (by omega), fun x hx => ?_, fun x hx => ?_⟩
  · show LC.Inv (if x ≤ m then tr x else c.next r q) n k fs gain
    split
    · exact h x ‹_›
    · exact i1
  · show ∃ r' q', Picks (if x ≤ m then tr x else c.next r q) n k r' q' ∧ (if x + 1 ≤ m then tr (x + 1) else c.next r q) = (if x ≤ m then tr x else c.next r q).next r' q'
    rw [if_pos (by omega : x ≤ m)]
    by_cases z : x + 1 ≤ m
    · rw [if_pos z]; exact st x (by omega)
    · have : x = m := by omega
      subst this
      rw [if_neg z, e]
      exact ⟨r, q, P, rfl⟩
theorem Walk.short {m : Nat} (w : Walk n k fs gain m c) (hn : n ≤ 3) {M : Nat} (hM : n + k ≤ M) (h0 : 0 < M) : m < M ^ 3 := by
  apply Classical.byContradiction
  intro z
  obtain ⟨tr, e, h, st⟩ := w
  have st' : ∀ x, ∃ y : Nat × Nat × Int, x < M ^ 3 → Step n k ((tr x).cr n k fs gain) ((tr (x + 1)).cr n k fs gain) y.1 y.2.1 y.2.2 := fun x => by
    by_cases hx : x < M ^ 3
    · obtain ⟨r, q, P, e2⟩ := st x (by omega)
      obtain ⟨_, ⟨d, s⟩, _⟩ := next_step (fs := fs) (gain := gain) hn (h x (by omega)).wf (h x (by omega)).good.ok.s P
      exact ⟨(r, q, d), fun _ => by rw [e2]; exact s⟩
    · exact ⟨(0, 0, 0), fun q => absurd q hx⟩
  obtain ⟨f, hf⟩ := Classical.skolem.mp st'
  exact ends (tr := fun x => (tr x).cr n k fs gain) (r := fun x => (f x).1) (c := fun x => (f x).2.1) (d := fun x => (f x).2.2) hn h0 hM (fun x hx => (h x (by omega)).good) fun x hx => hf x hx
end
end Sx

set_option Elab.async false
set_option linter.all false
set_option maxRecDepth 100000
/-! The corner to begin with; what the last one shows. -/
namespace Sx
open _root_.Tab
def unitL (n u : Nat) (v : Int) : List Int := (List.range n).map fun p => if p = u then v else 0
structure Box (fs : Fcs) (n first : Nat) (lo hi : Nat → Int) : Prop where
  len : fs.length = first + 2 * n
  row : ∀ p ∈ fs, p.1.length = n
  hi : ∀ u, u < n → fs.getD (first + 2 * u) ([], 0) = (unitL n u 1, hi u)
  lo : ∀ u, u < n → fs.getD (first + 2 * u + 1) ([], 0) = (unitL n u (-1), - lo u)
def startT (gain : List Int) (first n : Nat) : List Nat := (List.range n).map fun u => first + 2 * u + (if 0 ≤ gain.getD u 0 then 0 else 1)
def startO (m : Nat) (T : List Nat) : List Nat := (List.range m).filter fun f => !T.contains f
def slackL (p : List Int × Int) (signs ends : List Int) : List Int := List.zipWith (fun a b => -a * b) p.1 signs ++ [p.2 - (List.zipWith (· * ·) p.1 ends).sum]
def gainL (gain signs ends : List Int) : List Int := List.zipWith (· * ·) gain signs ++ [(List.zipWith (· * ·) gain ends).sum]
def signsL (fs : Fcs) (T : List Nat) : List Int := T.mapIdx fun u f => (fs.getD f ([], 0)).1.getD u 0
def endsL (fs : Fcs) (T : List Nat) : List Int := List.zipWith (fun s f => s * (fs.getD f ([], 0)).2) (signsL fs T) T
def LC.start (fs : Fcs) (gain : List Int) (first n : Nat) : LC :=
  let T := startT gain first n
  let O := startO fs.length T
  ⟨T, O, O.map (fun f => slackL (fs.getD f ([], 0)) (signsL fs T) (endsL fs T)) ++ [gainL gain (signsL fs T) (endsL fs T)], 1⟩
section
variable {fs : Fcs} {gain : List Int} {n first : Nat} {lo hi : Nat → Int}
theorem startT_len : (startT gain first n).length = n := by unfold startT; simp
theorem startT_get {u : Nat} (h : u < n) : (startT gain first n).getD u 0 = first + 2 * u + (if 0 ≤ gain.getD u 0 then 0 else 1) := by
  unfold startT
  rw [List.getD_eq_getElem?_getD, List.getElem?_map, List.getElem?_range h]; rfl
theorem startT_mem {f : Nat} : f ∈ startT gain first n ↔ ∃ u, u < n ∧ f = first + 2 * u + (if 0 ≤ gain.getD u 0 then 0 else 1) := by
  unfold startT
  rw [List.mem_map]
  constructor
  · rintro ⟨u, h, e⟩; exact ⟨u, List.mem_range.mp h, e.symm⟩
  · rintro ⟨u, h, e⟩; exact ⟨u, List.mem_range.mpr h, e.symm⟩
theorem startT_lt {f : Nat} (h : f ∈ startT gain first n) : f < first + 2 * n := by
  obtain ⟨u, h1, h2⟩ := startT_mem.mp h
  split at h2 <;> omega
theorem startT_nodup : (startT gain first n).Nodup := by
  unfold startT
  rw [List.nodup_iff_pairwise_ne, List.pairwise_map]
  refine List.Pairwise.imp_of_mem (R := fun a b => a < b) (fun {a b} _ _ h => ?_) List.pairwise_lt_range
  split <;> split <;> omega
theorem startO_mem {m f : Nat} {T : List Nat} : f ∈ startO m T ↔ f < m ∧ f ∉ T := by
  unfold startO
  rw [List.mem_filter, List.mem_range]
  simp
theorem startO_nodup {m : Nat} {T : List Nat} : (startO m T).Nodup := List.Pairwise.filter _ List.nodup_range
theorem startO_len {m : Nat} {T : List Nat} (hT : T.Nodup) (h : ∀ f ∈ T, f < m) : T.length + (startO m T).length = m := by
  have e : ((List.range m).filter fun f => T.contains f).length = T.length := by
    refine List.Perm.length_eq ((List.perm_ext_iff_of_nodup (List.Pairwise.filter _ List.nodup_range) hT).mpr fun f => ?_)
    rw [List.mem_filter, List.mem_range]
    constructor
    · intro q; simpa using q.2
    · intro q; exact ⟨h f q, by simpa using q⟩
  have := List.length_eq_countP_add_countP (fun f => T.contains f) (l := List.range m)
  rw [List.length_range, List.countP_eq_length_filter, List.countP_eq_length_filter, e] at this
  unfold startO
  have e2 : (fun f => !T.contains f) = (fun a => decide ¬T.contains a = true) := by
    funext f
    cases T.contains f <;> rfl
  rw [e2]
  exact this.symm
theorem unitL_get {u v : Nat} {x : Int} (hv : v < n) : (unitL n u x).getD v 0 = if v = u then x else 0 := by
  unfold unitL
  rw [List.getD_eq_getElem?_getD, List.getElem?_map, List.getElem?_range hv]; rfl
/-- the sign of the end of an unknown -/
def sg (gain : List Int) (u : Nat) : Int := if 0 ≤ gain.getD u 0 then 1 else -1
def en (gain : List Int) (lo hi : Nat → Int) (u : Nat) : Int := if 0 ≤ gain.getD u 0 then hi u else lo u
theorem Box.at (B : Box fs n first lo hi) {u : Nat} (h : u < n) : fs.getD ((startT gain first n).getD u 0) ([], 0) = (unitL n u (sg gain u), sg gain u * en gain lo hi u) := by
  rw [startT_get h]
  unfold sg en
  split
  · rw [Nat.add_zero, B.hi u h]; simp
  · rw [B.lo u h]; simp
theorem signs_get (B : Box fs n first lo hi) {u : Nat} (h : u < n) : (signsL fs (startT gain first n)).getD u 0 = sg gain u := by
  unfold signsL
  rw [List.getD_eq_getElem?_getD, List.getElem?_mapIdx]
  have e : (startT gain first n)[u]? = some ((startT gain first n).getD u 0) := by
    rw [List.getD_eq_getElem?_getD, List.getElem?_eq_getElem (by rw [startT_len]; exact h)]; rfl
  rw [e]
  show (fs.getD ((startT gain first n).getD u 0) ([], 0)).1.getD u 0 = _
  rw [B.at h, unitL_get h, if_pos rfl]
theorem signs_len : (signsL fs (startT gain first n)).length = n := by unfold signsL; rw [List.length_mapIdx, startT_len]
theorem ends_len : (endsL fs (startT gain first n)).length = n := by unfold endsL; rw [List.length_zipWith, signs_len, startT_len]; omega
theorem zip_get {f : Int → Int → Int} {a b : List Int} {u : Nat} (ha : u < a.length) (hb : u < b.length) : (List.zipWith f a b).getD u 0 = f (a.getD u 0) (b.getD u 0) := by
  rw [List.getD_eq_getElem?_getD, List.getElem?_zipWith, List.getD_eq_getElem?_getD, List.getD_eq_getElem?_getD, List.getElem?_eq_getElem ha, List.getElem?_eq_getElem hb]; rfl
theorem ends_get (B : Box fs n first lo hi) {u : Nat} (h : u < n) : (endsL fs (startT gain first n)).getD u 0 = en gain lo hi u := by
  unfold endsL
  rw [List.getD_eq_getElem?_getD, List.getElem?_zipWith]
  have e : (startT gain first n)[u]? = some ((startT gain first n).getD u 0) := by
    rw [List.getD_eq_getElem?_getD, List.getElem?_eq_getElem (by rw [startT_len]; exact h)]; rfl
  have e2 : (signsL fs (startT gain first n))[u]? = some (sg gain u) := by
    rw [← signs_get B h, List.getD_eq_getElem?_getD, List.getElem?_eq_getElem (by rw [signs_len]; exact h)]; rfl
  rw [e, e2]
  show sg gain u * (fs.getD ((startT gain first n).getD u 0) ([], 0)).2 = _
  rw [B.at h]
  show sg gain u * (sg gain u * en gain lo hi u) = _
  unfold sg
  split <;> omega
theorem sg_sq (u : Nat) : sg gain u * sg gain u = 1 := by unfold sg; split <;> rfl
/-- a sum of products of lists as a sum of three -/
theorem sum3 {a b : List Int} (hn : n ≤ 3) (ha : a.length = n) (hb : b.length = n) : (List.zipWith (· * ·) a b).sum = a.getD 0 0 * b.getD 0 0 + a.getD 1 0 * b.getD 1 0 + a.getD 2 0 * b.getD 2 0 := by
  match a, b, ha, hb with
  | [], [], _, _ => simp
  | [], _ :: _, h, h2 => simp at h h2; omega
  | _ :: _, [], h, h2 => simp at h h2; omega
  | [x], [y], _, _ => simp
  | [_], _ :: _ :: _, h, h2 => simp at h h2; omega
  | _ :: _ :: _, [_], h, h2 => simp at h h2; omega
  | [x, x2], [y, y2], _, _ => simp
  | [_, _], _ :: _ :: _ :: _, h, h2 => simp at h h2; omega
  | _ :: _ :: _ :: _, [_, _], h, h2 => simp at h h2; omega
  | [x, x2, x3], [y, y2, y3], _, _ => simp; omega
  | [_, _, _], _ :: _ :: _ :: _ :: _, h, h2 => simp at h h2; omega
  | _ :: _ :: _ :: _ :: _, [_, _, _], h, h2 => simp at h h2; omega
  | _ :: _ :: _ :: _ :: _, _ :: _ :: _ :: _ :: _, h, h2 => simp at h h2; omega
theorem getD_big {α : Type} {l : List α} {i : Nat} {x : α} (h : l.length ≤ i) : l.getD i x = x := by
  rw [List.getD_eq_getElem?_getD, List.getElem?_eq_none h]; rfl
end
end Sx

set_option Elab.async false
set_option linter.all false
set_option maxRecDepth 100000
namespace Sx
open _root_.Tab
section
variable {fs : Fcs} {gain : List Int} {n first : Nat} {lo hi : Nat → Int}
theorem getD_mem {α : Type} {l : List α} {i : Nat} {x : α} (h : i < l.length) : l.getD i x ∈ l := by
  rw [List.getD_eq_getElem?_getD, List.getElem?_eq_getElem h]; exact List.getElem_mem _
theorem getD_map' {α β : Type} {l : List α} {f : α → β} {i : Nat} {x : β} {y : α} (h : i < l.length) : (l.map f).getD i x = f (l.getD i y) := by
  rw [List.getD_eq_getElem?_getD, List.getElem?_map, List.getD_eq_getElem?_getD, List.getElem?_eq_getElem h]; rfl
theorem getD_appL {α : Type} {l r : List α} {i : Nat} {x : α} (h : i < l.length) : (l ++ r).getD i x = l.getD i x := by
  rw [List.getD_eq_getElem?_getD, List.getElem?_append_left h, List.getD_eq_getElem?_getD]
theorem getD_appR {α : Type} {l : List α} {y x : α} {i : Nat} (h : i = l.length) : (l ++ [y]).getD i x = y := by
  subst h
  rw [List.getD_eq_getElem?_getD, List.getElem?_append_right (Nat.le_refl _)]; simp
/-- how many facts are not tight to begin with -/
def kk (fs : Fcs) (n : Nat) : Nat := fs.length - n
theorem start_olen (B : Box fs n first lo hi) : (startO fs.length (startT gain first n)).length = kk fs n := by
  have h1 := startO_len (m := fs.length) (startT_nodup (gain := gain) (first := first) (n := n)) (fun f h => by have := startT_lt h; rw [B.len]; exact this)
  rw [startT_len] at h1
  unfold kk
  omega
theorem kk_n (B : Box fs n first lo hi) : n + kk fs n = fs.length := by unfold kk; have := B.len; omega
theorem slack_cel (B : Box fs n first lo hi) {p : List Int × Int} (hp : p ∈ fs) {j : Nat} (hj : j < n) : (slackL p (signsL fs (startT gain first n)) (endsL fs (startT gain first n))).getD j 0 = - p.1.getD j 0 * sg gain j := by
  have l1 := B.row p hp
  unfold slackL
  rw [getD_appL (by rw [List.length_zipWith, l1, signs_len]; omega), zip_get (by omega) (by rw [signs_len]; exact hj), signs_get B hj]
theorem slack_last (B : Box fs n first lo hi) (hn : n ≤ 3) {p : List Int × Int} (hp : p ∈ fs) : (slackL p (signsL fs (startT gain first n)) (endsL fs (startT gain first n))).getD n 0 = p.2 - (p.1.getD 0 0 * (endsL fs (startT gain first n)).getD 0 0 + p.1.getD 1 0 * (endsL fs (startT gain first n)).getD 1 0 + p.1.getD 2 0 * (endsL fs (startT gain first n)).getD 2 0) := by
  have l1 := B.row p hp
  unfold slackL
  rw [getD_appR (by rw [List.length_zipWith, l1, signs_len]; omega), sum3 hn l1 ends_len]
theorem slack_len (B : Box fs n first lo hi) {p : List Int × Int} (hp : p ∈ fs) : (slackL p (signsL fs (startT gain first n)) (endsL fs (startT gain first n))).length = n + 1 := by
  have l1 := B.row p hp
  unfold slackL
  rw [List.length_append, List.length_zipWith, l1, signs_len]; simp
theorem start_row (B : Box fs n first lo hi) {i : Nat} (hi' : i < kk fs n) : (LC.start fs gain first n).t.getD i [] = slackL (fs.getD ((LC.start fs gain first n).O.getD i 0) ([], 0)) (signsL fs (startT gain first n)) (endsL fs (startT gain first n)) := by
  have := start_olen (gain := gain) B
  unfold LC.start
  dsimp only
  rw [getD_appL (by rw [List.length_map, this]; exact hi'), getD_map' (y := 0) (by rw [this]; exact hi')]
theorem start_gain (B : Box fs n first lo hi) : (LC.start fs gain first n).t.getD (kk fs n) [] = gainL gain (signsL fs (startT gain first n)) (endsL fs (startT gain first n)) := by
  have := start_olen (gain := gain) B
  unfold LC.start
  dsimp only
  rw [getD_appR (by rw [List.length_map, this])]
theorem start_wf (B : Box fs n first lo hi) (hg : gain.length = n) : (LC.start fs gain first n).Wf n (kk fs n) := by
  refine ⟨startT_len, start_olen B, ?_, fun l hl => ?_⟩
  · unfold LC.start
    dsimp only
    rw [List.length_append, List.length_map, start_olen B]; rfl
  · unfold LC.start at hl
    dsimp only at hl
    rcases List.mem_append.mp hl with h | h
    · obtain ⟨f, hf, rfl⟩ := List.mem_map.mp h
      exact slack_len B (getD_mem (startO_mem.mp hf).1)
    · rw [List.mem_singleton.mp h]
      unfold gainL
      rw [List.length_append, List.length_zipWith, hg, signs_len]; simp
/-- the tight vectors to begin with -/
theorem start_tv (B : Box fs n first lo hi) {j : Nat} (hj : j < n) (u : Nat) : fvec fs gain ((startT gain first n).getD j 0) u = if u = j then sg gain j else 0 := by
  have hm : (startT gain first n).getD j 0 < fs.length := by
    rw [B.len]
    exact startT_lt (getD_mem (by rw [startT_len]; exact hj))
  unfold fvec
  rw [if_pos hm, B.at hj]
  by_cases hu : u < n
  · exact unitL_get hu
  · rw [getD_big (by unfold unitL; simp; omega), if_neg (by omega)]
theorem start_inv (B : Box fs n first lo hi) (hg : gain.length = n) (hn : n ≤ 3) : (LC.start fs gain first n).Inv n (kk fs n) fs gain := by
  have W := start_wf B hg
  have nk := kk_n B
  have tv : ∀ j, j < 3 → ∀ u, u < 3 → ((LC.start fs gain first n).tab n (kk fs n) fs gain).tv j u = if u = j then (if j < n then sg gain j else 1) else 0 := fun j hj u hu => by
    show (if j < n then fvec fs gain ((startT gain first n).getD j 0) else unitE j) u = _
    split
    · exact start_tv B ‹_› u
    · unfold unitE
      by_cases e : u = j
      · rw [if_pos e.symm, if_pos e]
      · rw [if_neg e, if_neg fun z => e z.symm]
  have tb : ∀ j, ((LC.start fs gain first n).tab n (kk fs n) fs gain).tb j = if j < n then sg gain j * en gain lo hi j else 0 := fun j => by
    show (if j < n then fbd fs ((startT gain first n).getD j 0) else 0) = _
    split
    · unfold fbd
      rw [B.at ‹_›]
    · rfl
  have sq := sg_sq (gain := gain)
  -- a row by its first numbers, its last one, its vector and its bound
  have rowA : ∀ (a l : Nat → Int) (u : Nat), u < 3 → (∀ j, j < n → l j = - a j * sg gain j) → (∀ j, n ≤ j → l j = 0) → (∀ j, n ≤ j → a j = 0) →
      1 * a u + (l 0 * ((LC.start fs gain first n).tab n (kk fs n) fs gain).tv 0 u + l 1 * ((LC.start fs gain first n).tab n (kk fs n) fs gain).tv 1 u + l 2 * ((LC.start fs gain first n).tab n (kk fs n) fs gain).tv 2 u) = 0 := fun a l u hu h1 h2 h3 => by
    rw [tv 0 (by decide) u hu, tv 1 (by decide) u hu, tv 2 (by decide) u hu]
    have key : ∀ j, l j * (if j < n then sg gain j else 1) = - a j := fun j => by
      split
      · rw [h1 j ‹_›, Int.mul_assoc, sq]; omega
      · rw [h2 j (by omega), h3 j (by omega)]; rfl
    have k0 := key 0
    have k1 := key 1
    have k2 := key 2
    generalize (if 0 < n then sg gain 0 else 1) = y0 at *
    generalize (if 1 < n then sg gain 1 else 1) = y1 at *
    generalize (if 2 < n then sg gain 2 else 1) = y2 at *
    rcases lt3 hu with rfl | rfl | rfl
    · simp; omega
    · simp; omega
    · simp; omega
  have rowB : ∀ (a l : Nat → Int) (b : Int), (∀ j, j < n → l j = - a j * sg gain j) → (∀ j, n ≤ j → l j = 0) →
      1 * b + (l 0 * ((LC.start fs gain first n).tab n (kk fs n) fs gain).tb 0 + l 1 * ((LC.start fs gain first n).tab n (kk fs n) fs gain).tb 1 + l 2 * ((LC.start fs gain first n).tab n (kk fs n) fs gain).tb 2) = b - (a 0 * (endsL fs (startT gain first n)).getD 0 0 + a 1 * (endsL fs (startT gain first n)).getD 1 0 + a 2 * (endsL fs (startT gain first n)).getD 2 0) := fun a l b h1 h2 => by
    have key : ∀ j, l j * ((LC.start fs gain first n).tab n (kk fs n) fs gain).tb j = - (a j * (endsL fs (startT gain first n)).getD j 0) := fun j => by
      rw [tb j]
      split
      · rw [ends_get B ‹_›, h1 j ‹_›]
        have := sq j
        have e : -a j * sg gain j * (sg gain j * en gain lo hi j) = - a j * ((sg gain j * sg gain j) * en gain lo hi j) := by grind
        rw [e, this]; grind
      · rw [h2 j (by omega), getD_big (by rw [ends_len]; omega)]; simp
    rw [key, key, key]; omega
  refine ⟨W, ⟨⟨by show (0 : Int) < 1; decide, fun i hi' u hu => ?_, fun i hi' => ?_, fun j hj => ?_, ?_⟩, fun j hj => if_pos hj, fun j hj => if_pos hj, fun j h1 h2 => if_neg (by omega), fun j h1 h2 => if_neg (by omega), fun i hi' j h1 h2 => if_neg (by omega), fun i h => if_pos h, fun i h => if_pos h,
    if_neg (by omega), if_neg (by omega), fun j j' h1 h2 e => ?_, fun j i h1 h2 e => ?_, fun i i' h1 h2 e => ?_, fun j hj => ?_, fun i h => ?_, fun f hf => ?_⟩, fun e h1 _ _ => h1⟩
  · -- A
    by_cases z : i < kk fs n
    · have hO : (LC.start fs gain first n).O.getD i 0 ∈ startO fs.length (startT gain first n) := getD_mem (by rw [start_olen B]; exact z)
      have hm := (startO_mem.mp hO).1
      refine rowA _ _ u hu (fun j hj => ?_) (fun j hj => if_neg (by omega)) fun j hj => ?_
      · show (if j < n then cel (LC.start fs gain first n).t i j else 0) = _
        rw [if_pos hj]
        unfold cel
        rw [start_row B z, slack_cel B (getD_mem hm) hj]
        show _ = -(if i < kk fs n then fvec fs gain ((LC.start fs gain first n).O.getD i 0) else _) j * _
        rw [if_pos z]
        unfold fvec
        rw [if_pos hm]
      · show (if i < kk fs n then fvec fs gain ((LC.start fs gain first n).O.getD i 0) else _) j = 0
        rw [if_pos z]
        unfold fvec
        rw [if_pos hm, getD_big (by rw [B.row _ (getD_mem hm)]; exact hj)]
    · have : i = kk fs n := by omega
      subst this
      refine rowA _ _ u hu (fun j hj => ?_) (fun j hj => if_neg (by omega)) fun j hj => ?_
      · show (if j < n then cel (LC.start fs gain first n).t (kk fs n) j else 0) = _
        rw [if_pos hj]
        unfold cel
        rw [start_gain B]
        show _ = -(if kk fs n < kk fs n then _ else fvec fs gain (n + kk fs n)) j * _
        rw [if_neg (Nat.lt_irrefl _)]
        unfold fvec gainL
        rw [nk, if_neg (Nat.lt_irrefl _), getD_appL (by rw [List.length_zipWith, hg, signs_len]; omega), zip_get (by omega) (by rw [signs_len]; exact hj), signs_get B hj, Int.neg_neg]
      · show (if kk fs n < kk fs n then _ else fvec fs gain (n + kk fs n)) j = 0
        rw [if_neg (Nat.lt_irrefl _)]
        unfold fvec
        rw [nk, if_neg (Nat.lt_irrefl _), getD_big (by omega)]; rfl
  · -- B
    by_cases z : i < kk fs n
    · have hO : (LC.start fs gain first n).O.getD i 0 ∈ startO fs.length (startT gain first n) := getD_mem (by rw [start_olen B]; exact z)
      have hm := (startO_mem.mp hO).1
      have hb : ((LC.start fs gain first n).tab n (kk fs n) fs gain).bv i = (fs.getD ((LC.start fs gain first n).O.getD i 0) ([], 0)).2 := if_pos z
      have e := rowB (fun j => (fs.getD ((LC.start fs gain first n).O.getD i 0) ([], 0)).1.getD j 0) (((LC.start fs gain first n).tab n (kk fs n) fs gain).l i) ((fs.getD ((LC.start fs gain first n).O.getD i 0) ([], 0)).2) (fun j hj => by
        show (if j < n then cel (LC.start fs gain first n).t i j else 0) = _
        rw [if_pos hj]
        unfold cel
        rw [start_row B z, slack_cel B (getD_mem hm) hj]) (fun j hj => if_neg (by omega))
      show 1 * ((LC.start fs gain first n).tab n (kk fs n) fs gain).bv i + _ = _
      rw [hb]
      refine Eq.trans e ?_
      show _ = cel (LC.start fs gain first n).t i n
      unfold cel
      rw [start_row B z, slack_last B hn (getD_mem hm)]
    · have : i = kk fs n := by omega
      subst this
      have hb : ((LC.start fs gain first n).tab n (kk fs n) fs gain).bv (kk fs n) = 0 := if_neg (Nat.lt_irrefl _)
      have e := rowB (fun j => - gain.getD j 0) (((LC.start fs gain first n).tab n (kk fs n) fs gain).l (kk fs n)) 0 (fun j hj => by
        show (if j < n then cel (LC.start fs gain first n).t (kk fs n) j else 0) = _
        rw [if_pos hj]
        unfold cel
        rw [start_gain B]
        unfold gainL
        rw [getD_appL (by rw [List.length_zipWith, hg, signs_len]; omega), zip_get (by omega) (by rw [signs_len]; exact hj), signs_get B hj, Int.neg_neg]) (fun j hj => if_neg (by omega))
      show 1 * ((LC.start fs gain first n).tab n (kk fs n) fs gain).bv (kk fs n) + _ = _
      rw [hb]
      refine Eq.trans e ?_
      show _ = cel (LC.start fs gain first n).t (kk fs n) n
      unfold cel
      rw [start_gain B]
      unfold gainL
      rw [getD_appR (by rw [List.length_zipWith, hg, signs_len]; omega), sum3 hn hg ends_len]
      grind
  · -- g
    show 0 ≤ if j < n then cel (LC.start fs gain first n).t (kk fs n) j else 0
    split
    · rename_i hjn
      unfold cel
      rw [start_gain B]
      unfold gainL
      rw [getD_appL (by rw [List.length_zipWith, hg, signs_len]; omega), zip_get (by omega) (by rw [signs_len]; exact hjn), signs_get B hjn]
      unfold sg
      split <;> omega
    · exact Int.le_refl _
  · -- det
    show det (((LC.start fs gain first n).tab n (kk fs n) fs gain).tv) ≠ 0
    unfold det
    rw [tv 0 (by decide) 0 (by decide), tv 0 (by decide) 1 (by decide), tv 0 (by decide) 2 (by decide), tv 1 (by decide) 0 (by decide), tv 1 (by decide) 1 (by decide), tv 1 (by decide) 2 (by decide), tv 2 (by decide) 0 (by decide), tv 2 (by decide) 1 (by decide), tv 2 (by decide) 2 (by decide)]
    have ne : ∀ j, (if j < n then sg gain j else 1) ≠ 0 := fun j => by unfold sg; split <;> (try split) <;> decide
    have n0 := ne 0
    have n1 := ne 1
    have n2 := ne 2
    generalize (if 0 < n then sg gain 0 else 1) = x0 at *
    generalize (if 1 < n then sg gain 1 else 1) = x1 at *
    generalize (if 2 < n then sg gain 2 else 1) = x2 at *
    have := Int.mul_ne_zero n0 (Int.mul_ne_zero n1 n2)
    simpa using this
  · -- inj
    have e : (startT gain first n).getD j 0 = (startT gain first n).getD j' 0 := e
    rw [startT_get h1, startT_get h2] at e
    split at e <;> split at e <;> omega
  · have e : (startT gain first n).getD j 0 = (startO fs.length (startT gain first n)).getD i 0 := e
    have hO : (startO fs.length (startT gain first n)).getD i 0 ∈ startO fs.length (startT gain first n) := getD_mem (by rw [start_olen B]; exact h2)
    refine (startO_mem.mp hO).2 ?_
    rw [← e]
    exact getD_mem (by rw [startT_len]; exact h1)
  · have e : (startO fs.length (startT gain first n)).getD i 0 = (startO fs.length (startT gain first n)).getD i' 0 := e
    have l := start_olen (gain := gain) B
    rw [List.getD_eq_getElem?_getD, List.getD_eq_getElem?_getD, List.getElem?_eq_getElem (by omega), List.getElem?_eq_getElem (by omega)] at e
    exact (List.getElem_inj startO_nodup).mp e
  · show (startT gain first n).getD j 0 < n + kk fs n
    rw [nk, B.len]
    exact startT_lt (getD_mem (by rw [startT_len]; exact hj))
  · have hO : (startO fs.length (startT gain first n)).getD i 0 ∈ startO fs.length (startT gain first n) := getD_mem (by rw [start_olen B]; exact h)
    show (startO fs.length (startT gain first n)).getD i 0 < n + kk fs n
    rw [nk]
    exact (startO_mem.mp hO).1
  · rw [nk] at hf
    by_cases z : f ∈ startT gain first n
    · left
      obtain ⟨j, hj, e⟩ := List.getElem_of_mem z
      refine ⟨j, by rw [startT_len] at hj; exact hj, ?_⟩
      show (startT gain first n).getD j 0 = f
      rw [List.getD_eq_getElem?_getD, List.getElem?_eq_getElem hj]; exact e
    · right
      obtain ⟨i, h, e⟩ := List.getElem_of_mem (startO_mem.mpr ⟨hf, z⟩)
      refine ⟨i, by rw [start_olen B] at h; exact h, ?_⟩
      show (startO fs.length (startT gain first n)).getD i 0 = f
      rw [List.getD_eq_getElem?_getD, List.getElem?_eq_getElem h]; exact e
end
end Sx

set_option Elab.async false
set_option linter.all false
set_option maxRecDepth 100000
/-! What the last corner shows. -/
namespace Sx
open _root_.Tab
/-- the slack of a fact at a corner, times the scale -/
def LC.slack (c : LC) (n f : Nat) : Int := match c.O.idxOf? f with
  | some i => cel c.t i n
  | none => 0
section
variable {fs : Fcs} {gain : List Int} {n first k : Nat} {lo hi : Nat → Int} {c : LC}
theorem slack_O (h : c.Inv n k fs gain) {i : Nat} (hi : i < k) : c.slack n (c.O.getD i 0) = cel c.t i n := by
  unfold LC.slack
  cases e : c.O.idxOf? (c.O.getD i 0) with
  | none =>
    exfalso
    have := List.idxOf?_eq_none_iff.mp e
    exact this (getD_mem (by rw [h.wf.O]; exact hi))
  | some i' =>
    have e2 := List.idxOf?_eq_some_iff.mp e
    obtain ⟨hi', h1, _⟩ := e2
    have : i' = i := h.good.oinj i' i (by rw [← h.wf.O]; exact hi') hi (by
      show c.O.getD i' 0 = c.O.getD i 0
      rw [List.getD_eq_getElem?_getD, List.getElem?_eq_getElem hi']
      exact h1)
    rw [this]
theorem slack_T (h : c.Inv n k fs gain) {j : Nat} (hj : j < n) : c.slack n (c.T.getD j 0) = 0 := by
  unfold LC.slack
  cases e : c.O.idxOf? (c.T.getD j 0) with
  | none => rfl
  | some i =>
    exfalso
    obtain ⟨hi, h1, _⟩ := List.idxOf?_eq_some_iff.mp e
    refine h.good.dis j i hj (by rw [← h.wf.O]; exact hi) ?_
    show c.T.getD j 0 = c.O.getD i 0
    rw [List.getD_eq_getElem?_getD (l := c.O), List.getElem?_eq_getElem hi]
    exact h1.symm
/-- a spot, by a divisor, with all slacks -/
theorem spot (h : c.Inv n k fs gain) (hn : n ≤ 3) : ∃ (X : Nat → Int) (D : Int), 0 < D ∧ (∀ f, f < n + k → c.s * (D * fbd fs f - dot (fvec fs gain f) X) = D * c.slack n f) ∧ c.s * dot (fvec fs gain (n + k)) X = - (D * cel c.t k n) := by
  obtain ⟨X, D, hD, hT, hO⟩ := vertex h.good.ok
  refine ⟨X, D, hD, fun f hf => ?_, ?_⟩
  · rcases h.good.cover f hf with ⟨j, hj, e⟩ | ⟨i, hi, e⟩
    · have e : c.T.getD j 0 = f := e
      have := hT j (by omega)
      rw [h.good.tv j hj, h.good.tb j hj] at this
      have this : dot (fvec fs gain (c.T.getD j 0)) X = D * fbd fs (c.T.getD j 0) := this
      rw [← e, slack_T h hj, this]; simp
    · have e : c.O.getD i 0 = f := e
      have := hO i (by omega)
      rw [h.good.av i hi, h.good.bv i hi] at this
      have this : c.s * (D * fbd fs (c.O.getD i 0) - dot (fvec fs gain (c.O.getD i 0)) X) = D * cel c.t i n := this
      rw [← e, slack_O h hi, this]
  · have := hO k (Nat.le_refl _)
    rw [h.good.gv, h.good.gb] at this
    have this : c.s * (D * 0 - dot (fvec fs gain (n + k)) X) = D * cel c.t k n := this
    rw [← this]; grind
/-- the numbers told at a corner -/
def LC.nums (c : LC) (n first : Nat) (lo : Nat → Int) (u : Nat) : Int := if u < n then lo u * c.s + c.slack n (first + 2 * u + 1) else 0
theorem dot_unit {u : Nat} (hu : u < n) (hn : n ≤ 3) (x : Int) (X : Nat → Int) : dot (fun v => (unitL n u x).getD v 0) X = x * X u := by
  have g : ∀ v, (unitL n u x).getD v 0 = if v = u then x else 0 := fun v => by
    by_cases hv : v < n
    · exact unitL_get hv
    · rw [getD_big (by unfold unitL; simp; omega), if_neg (by omega)]
  unfold dot
  dsimp only
  rw [g, g, g]
  rcases lt3 (by omega : u < 3) with rfl | rfl | rfl
  · simp
  · simp
  · simp
theorem dot_pad {a : Nat → Int} {X Y : Nat → Int} {D s : Int} (h : ∀ u, u < 3 → a u ≠ 0 → D * Y u = s * X u) : D * dot a Y = s * dot a X := by
  have p : ∀ u, u < 3 → D * (a u * Y u) = s * (a u * X u) := fun u hu => by
    by_cases z : a u = 0
    · rw [z]; simp
    · have := h u hu z
      grind
  have p0 := p 0 (by decide)
  have p1 := p 1 (by decide)
  have p2 := p 2 (by decide)
  unfold dot
  grind
theorem nums_fact (B : Box fs n first lo hi) (hg : gain.length = n) (h : c.Inv n (kk fs n) fs gain) (hn : n ≤ 3) :
    (∀ f, f < fs.length → c.s * fbd fs f - dot (fvec fs gain f) (c.nums n first lo) = c.slack n f) ∧ dot (fun u => gain.getD u 0) (c.nums n first lo) = cel c.t (kk fs n) n := by
  have nk := kk_n B
  obtain ⟨X, D, hD, hf, hG⟩ := spot h hn
  rw [nk] at hf hG
  have rel : ∀ u, u < n → D * c.nums n first lo u = c.s * X u := fun u hu => by
    have hlt : first + 2 * u + 1 < fs.length := by rw [B.len]; omega
    have e := hf (first + 2 * u + 1) hlt
    have v : fvec fs gain (first + 2 * u + 1) = fun w => (unitL n u (-1)).getD w 0 := by
      funext w
      unfold fvec
      rw [if_pos hlt, B.lo u hu]
    have b : fbd fs (first + 2 * u + 1) = - lo u := by unfold fbd; rw [B.lo u hu]
    rw [v, b, dot_unit hu hn] at e
    unfold LC.nums
    rw [if_pos hu]
    grind
  have pad : ∀ f, f ≤ fs.length → ∀ u, u < 3 → fvec fs gain f u ≠ 0 → D * c.nums n first lo u = c.s * X u := fun f hf' u hu ne => by
    refine rel u ?_
    apply Classical.byContradiction
    intro z
    apply ne
    unfold fvec
    split
    · rename_i hlt
      exact getD_big (by rw [B.row _ (getD_mem hlt)]; omega)
    · rw [getD_big (by omega)]; rfl
  refine ⟨fun f hf' => ?_, ?_⟩
  · have e1 := dot_pad (pad f (by omega))
    have e2 := hf f hf'
    have : D * (c.s * fbd fs f - dot (fvec fs gain f) (c.nums n first lo)) = D * c.slack n f := by grind
    exact Int.eq_of_mul_eq_mul_left (by omega) this
  · have e1 := dot_pad (pad fs.length (Nat.le_refl _))
    have e3 : dot (fvec fs gain fs.length) (c.nums n first lo) = - dot (fun u => gain.getD u 0) (c.nums n first lo) := by
      have : ∀ u, fvec fs gain fs.length u = - gain.getD u 0 := fun u => by unfold fvec; rw [if_neg (Nat.lt_irrefl _)]
      unfold dot
      rw [this, this, this]
      grind
    rw [e3] at e1
    have : D * dot (fun u => gain.getD u 0) (c.nums n first lo) = D * cel c.t (kk fs n) n := by grind
    exact Int.eq_of_mul_eq_mul_left (by omega) this
/-- x meets all facts -/
def Meet (fs : Fcs) (gain : List Int) (x : Nat → Int) : Prop := ∀ f, f < fs.length → dot (fvec fs gain f) x ≤ fbd fs f
/-- no spot gains more -/
theorem gains_most (h : c.Inv n k fs gain) (hk : n + k = fs.length) (hn : n ≤ 3) {x : Nat → Int} (hx : Meet fs gain x) : c.s * dot (fun u => gain.getD u 0) x ≤ cel c.t k n := by
  have a0 := h.good.ok.A k (Nat.le_refl _) 0 (by decide)
  have a1 := h.good.ok.A k (Nat.le_refl _) 1 (by decide)
  have a2 := h.good.ok.A k (Nat.le_refl _) 2 (by decide)
  have b := h.good.ok.B k (Nat.le_refl _)
  rw [h.good.gv] at a0 a1 a2
  rw [h.good.gb] at b
  have gv : ∀ u, fvec fs gain (n + k) u = - gain.getD u 0 := fun u => by unfold fvec; rw [hk, if_neg (Nat.lt_irrefl _)]
  rw [gv] at a0 a1 a2
  have t : ∀ j, j < 3 → (c.cr n k fs gain).t.l k j * dot ((c.cr n k fs gain).t.tv j) x ≤ (c.cr n k fs gain).t.l k j * (c.cr n k fs gain).t.tb j := fun j hj => by
    by_cases z : j < n
    · refine Int.mul_le_mul_of_nonneg_left ?_ (h.good.ok.g j hj)
      rw [h.good.tv j z, h.good.tb j z]
      exact hx _ (by rw [← hk]; exact h.good.rT j z)
    · rw [h.good.pl k (Nat.le_refl _) j (by omega) hj]; simp
  have t0 := t 0 (by decide)
  have t1 := t 1 (by decide)
  have t2 := t 2 (by decide)
  have b : (c.cr n k fs gain).t.s * 0 + _ = cel c.t k n := b
  have hs : (c.cr n k fs gain).t.s = c.s := rfl
  rw [hs] at a0 a1 a2 b
  generalize (c.cr n k fs gain).t = S at *
  have e : c.s * dot (fun u => gain.getD u 0) x = S.l k 0 * dot (S.tv 0) x + S.l k 1 * dot (S.tv 1) x + S.l k 2 * dot (S.tv 2) x := by
    unfold dot
    clear t t0 t1 t2 b
    grind
  rw [e]
  omega
/-- nothing meets all facts -/
theorem none_meets (h : c.Inv n k fs gain) (hk : n + k = fs.length) (hn : n ≤ 3) {i : Nat} (hi : i < k) (hm : cel c.t i n < 0) (hl : ∀ j, j < n → 0 ≤ cel c.t i j) {x : Nat → Int} (hx : Meet fs gain x) : False := by
  have a0 := h.good.ok.A i (Nat.le_of_lt hi) 0 (by decide)
  have a1 := h.good.ok.A i (Nat.le_of_lt hi) 1 (by decide)
  have a2 := h.good.ok.A i (Nat.le_of_lt hi) 2 (by decide)
  have b := h.good.ok.B i (Nat.le_of_lt hi)
  rw [h.good.av i hi] at a0 a1 a2
  rw [h.good.bv i hi] at b
  have t : ∀ j, j < 3 → (c.cr n k fs gain).t.l i j * dot ((c.cr n k fs gain).t.tv j) x ≤ (c.cr n k fs gain).t.l i j * (c.cr n k fs gain).t.tb j := fun j hj => by
    by_cases z : j < n
    · refine Int.mul_le_mul_of_nonneg_left ?_ ?_
      · rw [h.good.tv j z, h.good.tb j z]
        exact hx _ (by rw [← hk]; exact h.good.rT j z)
      · show 0 ≤ if j < n then cel c.t i j else 0
        rw [if_pos z]; exact hl j z
    · rw [h.good.pl i (Nat.le_of_lt hi) j (by omega) hj]; simp
  have t0 := t 0 (by decide)
  have t1 := t 1 (by decide)
  have t2 := t 2 (by decide)
  have b : (c.cr n k fs gain).t.s * fbd fs ((c.cr n k fs gain).O i) + _ = cel c.t i n := b
  have hs : (c.cr n k fs gain).t.s = c.s := rfl
  have xo := hx ((c.cr n k fs gain).O i) (by rw [← hk]; exact h.good.rO i hi)
  rw [hs] at a0 a1 a2 b
  have sp : 0 < c.s := h.good.ok.s
  generalize (c.cr n k fs gain).O i = f at *
  generalize (c.cr n k fs gain).t = S at *
  have e : c.s * dot (fvec fs gain f) x + (S.l i 0 * dot (S.tv 0) x + S.l i 1 * dot (S.tv 1) x + S.l i 2 * dot (S.tv 2) x) = 0 := by
    unfold dot
    clear t t0 t1 t2 b xo
    grind
  have xo' := Int.mul_le_mul_of_nonneg_left xo (Int.le_of_lt sp)
  omega
end
end Sx

set_option Elab.async false
set_option linter.all false
set_option maxRecDepth 100000
/-! What __init__ of Corner reckons. -/
namespace K11
open PySem PySem.Spec L2 Fn
open _root_.Tab (Tb cel Rect turnT turnS turn_cel)
def nL (l : List Nat) : List Int := l.map fun (x : Nat) => (x : Int)
theorem nL_len (l : List Nat) : (nL l).length = l.length := by unfold nL; simp
theorem nL_getD (l : List Nat) (i : Nat) : (nL l).getD i 0 = ((l.getD i 0 : Nat) : Int) := by
  unfold nL
  rw [List.getD_eq_getElem?_getD, List.getD_eq_getElem?_getD, List.getElem?_map]
  cases l[i]? <;> rfl
theorem getD_eq {α : Type} {l : List α} {i : Nat} (h : i < l.length) (d : α) : l.getD i d = l[i] := by rw [List.getD_eq_getElem?_getD, List.getElem?_eq_getElem h]; rfl
theorem enum_ints (l : List Int) : enumD (l.map PyData.int) = (List.range l.length).map fun u => .tuple [.int (u : Nat), .int (l.getD u 0)] := by
  apply List.ext_getElem?
  intro i
  unfold enumD
  rw [List.getElem?_mapIdx, List.getElem?_map, List.getElem?_map]
  by_cases h : i < l.length
  · rw [List.getElem?_eq_getElem h, List.getElem?_range h]
    show some (PyData.tuple [.int i, .int l[i]]) = some (.tuple [.int i, .int (l.getD i 0)])
    rw [getD_eq h]
  · rw [List.getElem?_eq_none (by omega), List.getElem?_eq_none (by rw [List.length_range]; omega)]; rfl
theorem zip_ints {a b : List Int} (h : a.length = b.length) : zipD (a.map PyData.int) (b.map PyData.int) = (List.range a.length).map fun u => .tuple [.int (a.getD u 0), .int (b.getD u 0)] := by
  apply List.ext_getElem?
  intro i
  unfold zipD
  rw [List.getElem?_zipWith, List.getElem?_map, List.getElem?_map, List.getElem?_map]
  by_cases h1 : i < a.length
  · have h2 : i < b.length := by omega
    rw [List.getElem?_eq_getElem h1, List.getElem?_eq_getElem h2, List.getElem?_range h1]
    show some (PyData.tuple [.int a[i], .int b[i]]) = some (.tuple [.int (a.getD i 0), .int (b.getD i 0)])
    rw [getD_eq h1, getD_eq h2]
  · rw [List.getElem?_eq_none (by omega), List.getElem?_eq_none (l := List.range _) (by rw [List.length_range]; omega)]; rfl
theorem range_ints (l : List Int) : l.map PyData.int = (List.range l.length).map fun u => .int (l.getD u 0) := by
  apply List.ext_getElem?
  intro i
  rw [List.getElem?_map, List.getElem?_map]
  by_cases h : i < l.length
  · rw [List.getElem?_eq_getElem h, List.getElem?_range h]
    show some (PyData.int l[i]) = some (.int (l.getD i 0))
    rw [getD_eq h]
  · rw [List.getElem?_eq_none (by omega), List.getElem?_eq_none (by rw [List.length_range]; omega)]; rfl
section
variable {ts gs : List Int} {rs : List PyData}
theorem first_ok (s dt : Option PyData) (hr : rs.length ≤ 6) : cI_first [s, some (pD ts gs rs), dt, none, none, none, none, none, none, none] = .ok (.int (rs.length : Nat)) := by
  show (O.ok [PyData.list rs]).bind (fun ds => noEx (bLen ds)) = _
  rfl
theorem tight_ok (s dt : Option PyData) {first : Nat} (hg : gs.length ≤ 3) : cI_T [s, some (pD ts gs rs), dt, some (.int (first : Nat)), none, none, none, none, none, none] = .ok (iL (nL (Sx.startT gs first gs.length))) := by
  unfold cI_T
  have h := comp_of (vs := [4, 5]) (f := aTup (aCons (aName 4) (aCons (aName 5) aNil))) (t := gYes) (e := (gAdd (gAdd (gVar 3) (gMul (gC (.int 2)) (gVar 4))) (gIf (gBl (gGe (gVar 5) (gC (.int 0)))) (gC (.int 0)) (gC (.int 1))))) (gi := gEnum (gConsA (gFld "gain" 0 (gVar 1)) gNilA))
    (ρ := [s, some (pD ts gs rs), dt, some (.int (first : Nat)), none, none, none, none, none, none]) (List.range gs.length) (fun u => .tuple [.int (u : Nat), .int (gs.getD u 0)]) (fun u => .int ((first + 2 * u + (if 0 ≤ gs.getD u 0 then 0 else 1) : Nat) : Int)) (by
      show (O.ok [PyData.list (gs.map PyData.int)]).bind enumI = _
      rw [O.bind_ok, ← enum_ints]
      rfl) (by rw [List.length_range]; exact lim_ge (by omega)) fun u hu => ⟨_, rfl, rfl, by
      have hm : mulOk 2 (u : Int) = true := mulOk_l (by constructor <;> decide)
      by_cases z : 0 ≤ gs.getD u 0
      · simp -implicitDefEqProofs [-List.getD_eq_getElem?_getD, z, hm]
      · simp -implicitDefEqProofs [-List.getD_eq_getElem?_getD, z, hm]⟩
  rw [h]
  show O.ok (PyData.list _) = O.ok (PyData.list _)
  congr 2
  unfold nL Sx.startT
  rw [List.map_map, List.map_map]
  refine List.map_congr_left fun u _ => ?_
  show PyData.int _ = PyData.int _
  rfl
theorem eqv_int (a b : Int) : PyData.eqv (.int a) (.int b) = decide (a = b) := by
  simp [PyData.eqv]
  rfl
theorem notin_ok (f : Int) (T : List Int) : dIn true (.int f) (.list (T.map PyData.int)) = .ok (.bool (!T.contains f)) := by
  unfold dIn
  show O.bind (if (flatD (.int f) && (T.map PyData.int).all flatD) = true then O.ok ((T.map PyData.int).any fun e => PyData.eqv e (.int f)) else .bad) _ = _
  have h1 : (T.map PyData.int).all flatD = true := List.all_eq_true.mpr fun d hd => by
    obtain ⟨n, _, rfl⟩ := List.mem_map.mp hd
    rfl
  have h2 : (T.map PyData.int).any (fun e => PyData.eqv e (.int f)) = T.contains f := by
    rw [List.any_map]
    have : ((fun e => PyData.eqv e (.int f)) ∘ PyData.int) = fun a => a == f := by
      funext a
      show PyData.eqv (.int a) (.int f) = _
      rw [eqv_int]
      rfl
    rw [this, List.contains_eq_any_beq]
    congr 1
    funext a
    exact Bool.eq_iff_iff.mpr ⟨fun h => by simpa using (beq_iff_eq.mp h).symm, fun h => by simpa using (beq_iff_eq.mp h).symm⟩
  rw [h1, h2]
  rfl
theorem contains_nL (T : List Nat) (f : Nat) : (nL T).contains (f : Int) = T.contains f := by
  rw [Bool.eq_iff_iff, List.contains_iff_mem, List.contains_iff_mem]
  unfold nL
  constructor
  · intro h
    obtain ⟨x, hx, e⟩ := List.mem_map.mp h
    have : x = f := by omega
    rw [← this]; exact hx
  · intro h
    exact List.mem_map.mpr ⟨f, h, rfl⟩
theorem others_ok (dp : Option PyData) {fi : Int} {T : List Nat} {fs : List PyData} (hm : fs.length ≤ 1000) : cI_O [some (D.ob 1 [(.str "tight", iL (nL T))]), dp, some (.list fs), some (.int fi), none, none, none, none, none, none] = .ok (iL (nL (Sx.startO fs.length T))) := by
  unfold cI_O
  have h := comp_flt (vs := [6]) (f := aName 6) (t := gBl (gNotIn (gVar 6) (gFld "tight" 1 (gVar 0)))) (e := gVar 6) (gi := gRng1 (gConsA (gB bLen (gConsA (gVar 2) gNilA)) gNilA))
    (ρ := [some (D.ob 1 [(.str "tight", iL (nL T))]), dp, some (.list fs), some (.int fi), none, none, none, none, none, none]) (List.range fs.length) (fun i => .int (i : Nat)) (fun i => .int (i : Nat)) (fun f => !T.contains f) (by
      show (O.ok [PyData.int (fs.length : Nat)]).bind rng1 = _
      rw [O.bind_ok, rng1_nat hm]
      unfold rangeD
      congr 1
      refine List.map_congr_left fun u _ => ?_
      congr 1
      omega) (by rw [List.length_range]; exact lim_ge hm) fun u hu => ⟨_, rfl, by
      show O.bind (noEx (dIn true (.int (u : Nat)) (iL (nL T)))) _ = _
      rw [notin_ok, contains_nL]
      rfl, fun _ => rfl⟩
  rw [h]
  show O.ok (PyData.list _) = O.ok (PyData.list _)
  congr 2
  unfold nL Sx.startO
  rw [List.map_map]
  rfl
abbrev selfD (T Os : List Nat) : PyData := D.ob 1 [(.str "tight", iL (nL T)), (.str "others", iL (nL Os))]
theorem ix_fact {fs : List (List Int × Int)} {f : Nat} (h : f < fs.length) : dIx (.list (fs.map factD)) (.int (f : Nat)) = .ok (factD (fs.getD f ([], 0))) := dIx_l _ _ (by
  rw [atI_map, atI_nat (x := fs.getD f ([], 0)) (by rw [getD_eq h, List.getElem?_eq_getElem h])]
  rfl)
theorem ix_tint (l : List Int) (i : Nat) (h : i < l.length) : dIx (.tuple (l.map PyData.int)) (.int (i : Nat)) = .ok (.int (l.getD i 0)) := by
  show (match atI (l.map PyData.int) (i : Int) with
    | some d => O.ok d
    | none => .bad) = _
  rw [atI_map, atI_nat (x := l.getD i 0) (by rw [getD_eq h, List.getElem?_eq_getElem h])]
  rfl
theorem signs_ok (dp : Option PyData) {fi : Int} {T Os : List Nat} {fs : List (List Int × Int)} (hT : T.length ≤ 3) (hm : ∀ f ∈ T, f < fs.length) (hn : ∀ p ∈ fs, p.1.length = T.length) :
    cI_S [some (selfD T Os), dp, some (.list (fs.map factD)), some (.int fi), none, none, none, none, none, none] = .ok (iL (Sx.signsL fs T)) := by
  unfold cI_S
  have h := comp_of (vs := [4, 6]) (f := aTup (aCons (aName 4) (aCons (aName 6) aNil))) (t := gYes) (e := (gIx (gIx (gIx (gVar 2) (gVar 6)) (gC (.int 0))) (gVar 4))) (gi := (gEnum (gConsA (gFld "tight" 1 (gVar 0)) gNilA)))
    (ρ := [some (selfD T Os), dp, some (.list (fs.map factD)), some (.int fi), none, none, none, none, none, none]) (List.range T.length) (fun u => .tuple [.int (u : Nat), .int ((T.getD u 0 : Nat) : Int)]) (fun u => .int ((Sx.signsL fs T).getD u 0)) (by
      show (O.ok [iL (nL T)]).bind enumI = _
      rw [O.bind_ok]
      show O.ok (enumD ((nL T).map PyData.int)) = _
      rw [enum_ints, nL_len]
      congr 1
      refine List.map_congr_left fun u _ => ?_
      rw [nL_getD]) (by rw [List.length_range]; exact lim_ge (by omega)) fun u hu => ⟨_, rfl, rfl, by
      have hu := List.mem_range.mp hu
      have hf : T.getD u 0 < fs.length := hm _ (Sx.getD_mem hu)
      have i1 := ix_fact hf
      have i2 : dIx (factD (fs.getD (T.getD u 0) ([], 0))) (.int 0) = .ok (.tuple ((fs.getD (T.getD u 0) ([], 0)).1.map PyData.int)) := rfl
      have i3 := ix_tint (fs.getD (T.getD u 0) ([], 0)).1 u (by rw [hn _ (Sx.getD_mem hf)]; exact hu)
      have e4 : (Sx.signsL fs T).getD u 0 = (fs.getD (T.getD u 0) ([], 0)).1.getD u 0 := by
        unfold Sx.signsL
        rw [List.getD_eq_getElem?_getD (l := T.mapIdx _), List.getElem?_mapIdx, List.getElem?_eq_getElem hu, getD_eq hu]
        rfl
      rw [e4]
      simp -implicitDefEqProofs [-List.getD_eq_getElem?_getD, i1, i2, i3]⟩
  rw [h]
  show O.ok (PyData.list _) = O.ok (PyData.list _)
  have e : (Sx.signsL fs T).length = T.length := by unfold Sx.signsL; rw [List.length_mapIdx]
  rw [range_ints (Sx.signsL fs T), e]
theorem signs_len (fs : List (List Int × Int)) (T : List Nat) : (Sx.signsL fs T).length = T.length := by unfold Sx.signsL; rw [List.length_mapIdx]
theorem ends_len (fs : List (List Int × Int)) (T : List Nat) : (Sx.endsL fs T).length = T.length := by unfold Sx.endsL; rw [List.length_zipWith, signs_len]; omega
theorem ix_snd (f : List Int × Int) : dIx (factD f) (.int 1) = .ok (.int f.2) := rfl
theorem ends_ok (dp : Option PyData) {fi : Int} {T Os : List Nat} {fs : List (List Int × Int)} (hT : T.length ≤ 3) (hm : ∀ f ∈ T, f < fs.length) (hb : ∀ p ∈ fs, bd (-2000) 2000 p.2) :
    cI_E [some (selfD T Os), dp, some (.list (fs.map factD)), some (.int fi), none, none, none, some (iL (Sx.signsL fs T)), none, none] = .ok (iL (Sx.endsL fs T)) := by
  unfold cI_E
  have sl := signs_len fs T
  have h := comp_of (vs := [9, 6]) (f := aTup (aCons (aName 9) (aCons (aName 6) aNil))) (t := gYes) (e := (gMul (gVar 9) (gIx (gIx (gVar 2) (gVar 6)) (gC (.int 1))))) (gi := (gZipM (gConsA (gVar 7) (gConsA (gFld "tight" 1 (gVar 0)) gNilA))))
    (ρ := [some (selfD T Os), dp, some (.list (fs.map factD)), some (.int fi), none, none, none, some (iL (Sx.signsL fs T)), none, none]) (List.range T.length) (fun u => .tuple [.int ((Sx.signsL fs T).getD u 0), .int ((T.getD u 0 : Nat) : Int)]) (fun u => .int ((Sx.endsL fs T).getD u 0)) (by
      show O.ok (zipD ((Sx.signsL fs T).map PyData.int) ((nL T).map PyData.int)) = _
      rw [zip_ints (by rw [nL_len, sl]), sl]
      congr 1
      refine List.map_congr_left fun u _ => ?_
      rw [nL_getD]) (by rw [List.length_range]; exact lim_ge (by omega)) fun u hu => ⟨_, rfl, rfl, by
      have hu := List.mem_range.mp hu
      have hf : T.getD u 0 < fs.length := hm _ (Sx.getD_mem hu)
      have i1 := ix_fact hf
      have i2 : dIx (factD (fs.getD (T.getD u 0) ([], 0))) (.int 1) = .ok (.int (fs.getD (T.getD u 0) ([], 0)).2) := rfl
      have hmu : mulOk ((Sx.signsL fs T).getD u 0) (fs.getD (T.getD u 0) ([], 0)).2 = true := mulOk_r (by
        obtain ⟨h1, h2⟩ := hb _ (Sx.getD_mem (x := ([], 0)) hf)
        constructor <;> omega)
      have e4 : (Sx.endsL fs T).getD u 0 = (Sx.signsL fs T).getD u 0 * (fs.getD (T.getD u 0) ([], 0)).2 := by
        unfold Sx.endsL
        rw [List.getD_eq_getElem?_getD (l := List.zipWith _ _ _), List.getElem?_zipWith, List.getElem?_eq_getElem (by omega : u < (Sx.signsL fs T).length), List.getElem?_eq_getElem hu, getD_eq (by omega : u < (Sx.signsL fs T).length), getD_eq hu]
        rfl
      rw [e4]
      simp -implicitDefEqProofs [-List.getD_eq_getElem?_getD, i1, i2, hmu]⟩
  rw [h]
  show O.ok (PyData.list _) = O.ok (PyData.list _)
  rw [range_ints (Sx.endsL fs T), ends_len]
/-- the line of a fact -/
theorem slack_ok {f : List Int × Int} {Sg En : List Int} (h1 : f.1.length = Sg.length) (h2 : f.1.length = En.length) (h3 : f.1.length ≤ 3) (hk : ∀ k ∈ f.1, bd (-50) 50 k) : f_slack_line [factD f, iL Sg, iL En] = .ok (iL (Sx.slackL f Sg En)) := by
  have e : rho0 8 [factD f, iL Sg, iL En] = [some (factD f), some (iL Sg), some (iL En), none, none, none, none, none] := rfl
  unfold f_slack_line fnG
  rw [e]
  unfold g_slack_line
  have hc := comp_of (vs := [6, 7]) (f := aTup (aCons (aName 6) (aCons (aName 7) aNil))) (t := gYes) (e := (gMul (gNeg (gVar 6)) (gVar 7))) (gi := (gZipM (gConsA (gVar 3) (gConsA (gVar 1) gNilA))))
    (ρ := [some (factD f), some (iL Sg), some (iL En), some (.tuple (f.1.map PyData.int)), some (.int f.2), none, none, none]) (List.range f.1.length) (fun u => .tuple [.int (f.1.getD u 0), .int (Sg.getD u 0)]) (fun u => .int (-(f.1.getD u 0) * Sg.getD u 0)) (by
      show O.ok (zipD (f.1.map PyData.int) (Sg.map PyData.int)) = _
      rw [zip_ints h1]) (by rw [List.length_range]; exact lim_ge (by omega)) fun u hu => ⟨_, rfl, rfl, by
      have hu := List.mem_range.mp hu
      have hmu : mulOk (-(f.1.getD u 0)) (Sg.getD u 0) = true := mulOk_l (by
        obtain ⟨a, b⟩ := hk _ (Sx.getD_mem (x := 0) hu)
        constructor <;> omega)
      simp -implicitDefEqProofs [-List.getD_eq_getElem?_getD, hmu]⟩
  have hp := psum_ok (s := .tuple (f.1.map PyData.int)) (ks := f.1) (ps := En) (.inr rfl) (by omega) hk
  have hl : (List.map (fun u => PyData.int (-(f.1.getD u 0) * Sg.getD u 0)) (List.range f.1.length)) = (List.zipWith (fun a b => -a * b) f.1 Sg).map PyData.int := by
    rw [range_ints (List.zipWith (fun a b => -a * b) f.1 Sg), List.length_zipWith, ← h1, Nat.min_self]
    refine List.map_congr_left fun u hu => ?_
    have hu := List.mem_range.mp hu
    rw [Sx.zip_get hu (by omega)]
  rw [hl] at hc
  unfold factD at hc
  obtain ⟨Z, hZ⟩ : ∃ Z, Z = List.zipWith (fun a b => -a * b) f.1 Sg := ⟨_, rfl⟩
  have hlim : Z.length + 1 ≤ lim := by rw [hZ, List.length_zipWith]; exact lim_ge (by omega)
  rw [← hZ] at hc
  simp -implicitDefEqProofs [hc, hp, factD, hlim]
  unfold Sx.slackL
  rw [← hZ, List.map_append]
  rfl
theorem gain_ok' {gs Sg En : List Int} (h1 : gs.length = Sg.length) (h2 : gs.length = En.length) (h3 : gs.length ≤ 3) (hk : ∀ k ∈ gs, bd (-50) 50 k) : f_gain_line [iL gs, iL Sg, iL En] = .ok (iL (Sx.gainL gs Sg En)) := by
  have e : rho0 6 [iL gs, iL Sg, iL En] = [some (iL gs), some (iL Sg), some (iL En), none, none, none] := rfl
  unfold f_gain_line fnG
  rw [e]
  unfold g_gain_line
  have hc := comp_of (vs := [4, 5]) (f := aTup (aCons (aName 4) (aCons (aName 5) aNil))) (t := gYes) (e := (gMul (gVar 4) (gVar 5))) (gi := (gZipM (gConsA (gVar 0) (gConsA (gVar 1) gNilA))))
    (ρ := [some (iL gs), some (iL Sg), some (iL En), none, none, none]) (List.range gs.length) (fun u => .tuple [.int (gs.getD u 0), .int (Sg.getD u 0)]) (fun u => .int (gs.getD u 0 * Sg.getD u 0)) (by
      show O.ok (zipD (gs.map PyData.int) (Sg.map PyData.int)) = _
      rw [zip_ints h1]) (by rw [List.length_range]; exact lim_ge (by omega)) fun u hu => ⟨_, rfl, rfl, by
      have hu := List.mem_range.mp hu
      have hmu : mulOk (gs.getD u 0) (Sg.getD u 0) = true := mulOk_l (by
        obtain ⟨a, b⟩ := hk _ (Sx.getD_mem (x := 0) hu)
        constructor <;> omega)
      simp -implicitDefEqProofs [-List.getD_eq_getElem?_getD, hmu]⟩
  have hp := psum_ok (s := .list (gs.map PyData.int)) (ks := gs) (ps := En) (.inl rfl) (by omega) hk
  have hl : (List.map (fun u => PyData.int (gs.getD u 0 * Sg.getD u 0)) (List.range gs.length)) = (List.zipWith (· * ·) gs Sg).map PyData.int := by
    rw [range_ints (List.zipWith (· * ·) gs Sg), List.length_zipWith, ← h1, Nat.min_self]
    refine List.map_congr_left fun u hu => ?_
    have hu := List.mem_range.mp hu
    rw [Sx.zip_get hu (by omega)]
  rw [hl] at hc
  obtain ⟨Z, hZ⟩ : ∃ Z, Z = List.zipWith (· * ·) gs Sg := ⟨_, rfl⟩
  have hlim : Z.length + 1 ≤ lim := by rw [hZ, List.length_zipWith]; exact lim_ge (by omega)
  rw [← hZ] at hc
  simp -implicitDefEqProofs [hc, hp, hlim]
  unfold Sx.gainL
  rw [← hZ, List.map_append]
  rfl
end
end K11

set_option Elab.async false
set_option linter.all false
set_option maxRecDepth 100000
namespace K11
open PySem PySem.Spec L2 Fn
open _root_.Tab (Tb cel Rect turnT turnS turn_cel)
theorem iL_inj {a b : List Int} (h : iL a = iL b) : a = b := by
  have h1 : a.map PyData.int = b.map PyData.int := PyData.list.inj h
  have : ∀ {a b : List Int}, a.map PyData.int = b.map PyData.int → a = b := fun {a} => by
    induction a with
    | nil => intro b h; cases b with
      | nil => rfl
      | cons x b => cases h
    | cons x a ih => intro b h; cases b with
      | nil => cases h
      | cons y b =>
        rw [List.map_cons, List.map_cons] at h
        injection h with h1 h2
        rw [PyData.int.inj h1, ih h2]
  exact this h1
/-- the facts as they come -/
structure FsOk (fs : List (List Int × Int)) (n : Nat) : Prop where
  row : ∀ p ∈ fs, p.1.length = n
  num : ∀ p ∈ fs, ∀ k ∈ p.1, bd (-50) 50 k
  bnd : ∀ p ∈ fs, bd (-2000) 2000 p.2
  len : fs.length ≤ 100
section
variable {ts gs : List Int} {rs : List PyData} {fs : List (List Int × Int)} {n : Nat}
theorem row_at (dp : Option PyData) {fi : Int} {Sg En : List Int} {f : Nat} (F : FsOk fs n) (hf : f < fs.length) (h1 : Sg.length = n) (h2 : En.length = n) (hn : n ≤ 3) (s : Option PyData) :
    cI_row [s, dp, some (.list (fs.map factD)), some (.int fi), none, none, some (.int (f : Nat)), some (iL Sg), some (iL En), none] = .ok (iL (Sx.slackL (fs.getD f ([], 0)) Sg En)) := by
  unfold cI_row
  have i1 := ix_fact hf
  have m := Sx.getD_mem (x := (([], 0) : List Int × Int)) hf
  have i2 := slack_ok (f := fs.getD f ([], 0)) (Sg := Sg) (En := En) (by rw [F.row _ m, h1]) (by rw [F.row _ m, h2]) (by rw [F.row _ m]; exact hn) (F.num _ m)
  simp -implicitDefEqProofs [-List.getD_eq_getElem?_getD, i1, i2]
theorem init_good (F : FsOk fs n) (hg : gs.length = n) (hgs : ∀ k ∈ gs, bd (-50) 50 k) (hn : n ≤ 3) (hr : rs.length ≤ 6) (hT : ∀ f ∈ Sx.startT gs rs.length n, f < fs.length) :
    InitOk (pD ts gs rs) (.list (fs.map factD)) (rs.length : Nat) (nL (Sx.startT gs rs.length n)) (nL (Sx.startO fs.length (Sx.startT gs rs.length n))) (Sx.signsL fs (Sx.startT gs rs.length n)) (Sx.endsL fs (Sx.startT gs rs.length n))
      ((Sx.startO fs.length (Sx.startT gs rs.length n)).map fun f => Sx.slackL (fs.getD f ([], 0)) (Sx.signsL fs (Sx.startT gs rs.length n)) (Sx.endsL fs (Sx.startT gs rs.length n)))
      (Sx.gainL gs (Sx.signsL fs (Sx.startT gs rs.length n)) (Sx.endsL fs (Sx.startT gs rs.length n))) := by
  have tl : (Sx.startT gs rs.length n).length = n := Sx.startT_len
  have sl := signs_len fs (Sx.startT gs rs.length n)
  have el := ends_len fs (Sx.startT gs rs.length n)
  rw [tl] at sl el
  refine ⟨fun s => first_ok s _ hr, fun s => ?_, ?_, signs_ok _ (by omega) hT (fun p hp => by rw [tl]; exact F.row p hp), ends_ok _ (by omega) hT F.bnd, ?_, fun s => ?_, ?_⟩
  · have := tight_ok (ts := ts) (rs := rs) s (some (.list (fs.map factD))) (first := rs.length) (by omega : gs.length ≤ 3)
    rw [hg] at this
    exact this
  · have := others_ok (some (pD ts gs rs)) (fi := (rs.length : Nat)) (T := Sx.startT gs rs.length n) (fs := fs.map factD) (by rw [List.length_map]; have := F.len; omega)
    rw [List.length_map] at this
    exact this
  · have key : ∀ L : List Nat, (∀ f ∈ L, f < fs.length) → Paired (fun (f : Int) (r : List Int) => ∀ s, cI_row [s, some (pD ts gs rs), some (.list (fs.map factD)), some (.int (rs.length : Nat)), none, none, some (.int f), some (iL (Sx.signsL fs (Sx.startT gs rs.length n))), some (iL (Sx.endsL fs (Sx.startT gs rs.length n))), none] = .ok (iL r)) (nL L) (L.map fun f => Sx.slackL (fs.getD f ([], 0)) (Sx.signsL fs (Sx.startT gs rs.length n)) (Sx.endsL fs (Sx.startT gs rs.length n))) := fun L => by
      induction L with
      | nil => intro _; exact .nil
      | cons f L ih =>
        intro h
        exact .cons (fun s => row_at _ F (h f List.mem_cons_self) sl el hn s) (ih fun g hg => h g (List.mem_cons_of_mem _ hg))
    exact key _ fun f hf => (Sx.startO_mem.mp hf).1
  · unfold cI_gain
    have i2 := gain_ok' (gs := gs) (Sg := Sx.signsL fs (Sx.startT gs rs.length n)) (En := Sx.endsL fs (Sx.startT gs rs.length n)) (by omega) (by omega) (by omega) hgs
    show (O.ok [iL gs, _, _]).bind _ = _
    rw [O.bind_ok]
    show (if 3 = 3 then (f_gain_line [iL gs, _, _]).bind listO else .bad) = _
    rw [if_pos rfl, i2]
    rfl
  · rw [nL_len]
    unfold Sx.startO
    have := List.length_filter_le (fun f => !(Sx.startT gs rs.length n).contains f) (List.range fs.length)
    rw [List.length_range] at this
    have := F.len
    omega
theorem init_uniq {dp dt : PyData} {fi fi' : Int} {T T' O O' Sg Sg' En En' : List Int} {rows rows' : List (List Int)} {gl gl' : List Int} (a : InitOk dp dt fi T O Sg En rows gl) (b : InitOk dp dt fi' T' O' Sg' En' rows' gl') : T = T' ∧ O = O' ∧ rows = rows' ∧ gl = gl' := by
  have ok : ∀ {x y : PyData} {u v : Fn.O PyData}, u = .ok x → v = .ok y → u = v → x = y := fun {x y u v} h1 h2 h3 => by
    rw [h1, h2] at h3
    cases h3
    rfl
  have e1 : fi = fi' := PyData.int.inj (ok (a.first none) (b.first none) rfl)
  subst e1
  have e2 : T = T' := iL_inj (ok (a.tight none) (b.tight none) rfl)
  subst e2
  have e3 : O = O' := iL_inj (ok a.others b.others rfl)
  subst e3
  have e4 : Sg = Sg' := iL_inj (ok a.signs b.signs rfl)
  subst e4
  have e5 : En = En' := iL_inj (ok a.ends b.ends rfl)
  subst e5
  have e6 : gl = gl' := iL_inj (ok (a.gain none) (b.gain none) rfl)
  refine ⟨rfl, rfl, ?_, e6⟩
  have key : ∀ {O : List Int} {rows rows' : List (List Int)}, Paired (fun f r => ∀ s, cI_row [s, some dp, some dt, some (.int fi), none, none, some (.int f), some (iL Sg), some (iL En), none] = .ok (iL r)) O rows → Paired (fun f r => ∀ s, cI_row [s, some dp, some dt, some (.int fi), none, none, some (.int f), some (iL Sg), some (iL En), none] = .ok (iL r)) O rows' → rows = rows' := fun {O} => by
    induction O with
    | nil => intro r r' h h'; cases h; cases h'; rfl
    | cons f O ih =>
      intro r r' h h'
      cases h with
      | cons h1 h2 => cases h' with
        | cons h1' h2' => rw [iL_inj (ok (h1 none) (h1' none) rfl), ih h2 h2']
  exact key a.rows b.rows
end
end K11

set_option Elab.async false
set_option linter.all false
set_option maxRecDepth 100000
/-! missed_row and column_for. -/
namespace K11
open PySem PySem.Spec L2 Fn
open _root_.Tab (Tb cel Rect turnT turnS turn_cel)
abbrev corD (c : Sx.LC) : PyData := D.cor (nL c.T) (nL c.O) (tbD c.t) c.s
theorem ix_last {l : List Int} (h : l ≠ []) : dIx (lnD l) (.int (-1)) = .ok (.int (l.getD (l.length - 1) 0)) := dIx_l _ _ (by
  have hl : 0 < l.length := List.length_pos_iff.mpr h
  unfold atI ixN
  rw [List.length_map, if_neg (by omega), if_pos (by omega)]
  have : ((-1 : Int) + (l.length : Int)).toNat = l.length - 1 := by omega
  show (l.map PyData.int)[((-1 : Int) + (l.length : Int)).toNat]? = _
  rw [this, List.getElem?_map, List.getElem?_eq_getElem (by omega), getD_eq (by omega)]
  rfl)
theorem ix_lastR {t : List (List Int)} (h : t ≠ []) : dIx (tbD t) (.int (-1)) = .ok (lnD (t.getD (t.length - 1) [])) := dIx_l _ _ (by
  have hl : 0 < t.length := List.length_pos_iff.mpr h
  unfold atI ixN
  rw [List.length_map, if_neg (by omega), if_pos (by omega)]
  have : ((-1 : Int) + (t.length : Int)).toNat = t.length - 1 := by omega
  show (t.map lnD)[((-1 : Int) + (t.length : Int)).toNat]? = _
  rw [this, List.getElem?_map, List.getElem?_eq_getElem (by omega), getD_eq (by omega)]
  rfl)
theorem filter_one {α : Type} {p : α → Bool} {r : α} : ∀ {l : List α}, l.Nodup → r ∈ l → p r = true → (∀ x ∈ l, p x = true → x = r) → l.filter p = [r]
  | [], _, h, _, _ => by cases h
  | a :: l, hn, h, hp, hu => by
    have hn' := List.nodup_cons.mp hn
    rcases List.mem_cons.mp h with e | h
    · subst e
      rw [List.filter_cons_of_pos hp]
      congr 1
      apply List.filter_eq_nil_iff.mpr
      intro x hx z
      have := hu x (List.mem_cons_of_mem _ hx) z
      subst this
      exact hn'.1 hx
    · have na : ¬ p a = true := fun z => by
        have := hu a List.mem_cons_self z
        subst this
        exact hn'.1 h
      rw [List.filter_cons_of_neg na]
      exact filter_one hn'.2 h hp fun x hx => hu x (List.mem_cons_of_mem _ hx)
theorem argmin {α : Type} (f : α → Nat) : ∀ {l : List α}, l ≠ [] → ∃ r ∈ l, ∀ x ∈ l, f r ≤ f x
  | [a], _ => ⟨a, List.mem_cons_self, fun x hx => by rw [List.mem_singleton.mp hx]; exact Nat.le_refl _⟩
  | a :: b :: l, _ => by
    obtain ⟨r, h1, h2⟩ := argmin f (l := b :: l) (by simp)
    by_cases z : f a ≤ f r
    · exact ⟨a, List.mem_cons_self, fun x hx => by
        rcases List.mem_cons.mp hx with e | hx
        · rw [e]; exact Nat.le_refl _
        · have := h2 x hx; omega⟩
    · exact ⟨r, List.mem_cons_of_mem _ h1, fun x hx => by
        rcases List.mem_cons.mp hx with e | hx
        · rw [e]; omega
        · exact h2 x hx⟩
theorem keyOf_nL {T : List Nat} {i : Nat} (h : i < T.length) : keyOf ((nL T).map PyData.int) (.int (i : Nat)) = some ((T.getD i 0 : Nat) : Int) := by
  unfold keyOf
  have e : atI ((nL T).map PyData.int) (i : Int) = some (.int ((T.getD i 0 : Nat) : Int)) := by
    rw [atI_map, atI_nat (x := ((T.getD i 0 : Nat) : Int)) (by unfold nL; rw [List.getElem?_map, List.getElem?_eq_getElem h, getD_eq h]; rfl)]
    rfl
  show (match atI ((nL T).map PyData.int) (i : Int) with
    | some (PyData.int z) => some z
    | _ => none) = _
  rw [e]
theorem keyI_nL {T : List Nat} {i : Nat} (h : i < T.length) : keyI ((nL T).map PyData.int) (.int (i : Nat)) = ((T.getD i 0 : Nat) : Int) := by
  unfold keyI
  rw [keyOf_nL h]; rfl
section
variable {c : Sx.LC} {n k : Nat}
theorem missed_ok (W : c.Wf n k) (hk : k ≤ 100) (inj : ∀ i i', i < k → i' < k → c.O.getD i 0 = c.O.getD i' 0 → i = i') :
    (f_missed [corD c] = .ok .none ∧ ∀ i, i < k → 0 ≤ cel c.t i n) ∨ ∃ r, r < k ∧ f_missed [corD c] = .ok (.int (r : Nat)) ∧ cel c.t r n < 0 ∧ ∀ i, i < k → cel c.t i n < 0 → c.O.getD r 0 ≤ c.O.getD i 0 := by
  have hc := comp_flt (vs := [2]) (f := aName 2) (t := (gBl (gLt (gIx (gIx (gFld "table" 1 (gVar 0)) (gVar 2)) (gNeg (gC (.int 1)))) (gC (.int 0))))) (e := gVar 2) (gi := (gRng1 (gConsA (gB bLen (gConsA (gFld "others" 1 (gVar 0)) gNilA)) gNilA)))
    (ρ := [some (corD c), none, none]) (List.range k) (fun i => .int (i : Nat)) (fun i => .int (i : Nat)) (fun i => decide (cel c.t i n < 0)) (by
      show (O.ok [PyData.int (((nL c.O).map PyData.int).length : Nat)]).bind rng1 = _
      rw [O.bind_ok, List.length_map, nL_len, W.O, rng1_nat (by omega)]
      unfold rangeD
      congr 1
      refine List.map_congr_left fun u _ => ?_
      congr 1
      omega) (by rw [List.length_range]; exact lim_ge (by omega)) fun u hu => ⟨_, rfl, by
      have hu := List.mem_range.mp hu
      have i1 := ix_row c.t u (by rw [W.t.1]; omega)
      have hl : (c.t.getD u []).length = n + 1 := W.t.2 _ (Sx.getD_mem (by rw [W.t.1]; omega))
      have i2 := ix_last (l := c.t.getD u []) (by intro z; rw [z] at hl; simp at hl)
      rw [hl, Nat.add_sub_cancel] at i2
      show O.bind (O.bind (O.bind (O.bind (O.ok (tbD c.t)) fun d => O.bind (O.ok (PyData.int (u : Nat))) fun e => noEx (dIx d e)) fun d => O.bind (O.ok (PyData.int (-1))) fun e => noEx (dIx d e)) fun d => O.bind (O.ok (PyData.int 0)) fun e => noEx (dLt d e)) _ = _
      rw [O.bind_ok, O.bind_ok, i1]
      show O.bind (O.bind (noEx (dIx (lnD (c.t.getD u [])) (.int (-1)))) fun d => noEx (dLt d (.int 0))) _ = _
      rw [i2]
      rfl, fun _ => rfl⟩
  have e0 : rho0 3 [corD c] = [some (corD c), none, none] := rfl
  have go : ∀ L : List Nat, (List.range k).filter (fun i => decide (cel c.t i n < 0)) = L → f_missed [corD c] = noEx (minD (L.map fun i => PyData.int (i : Nat)) ((nL c.O).map PyData.int)) := fun L hL => by
    unfold f_missed fnG
    rw [e0]
    unfold g_missed
    show noEx (outR ((R.seq ((gComp _ _ _ _ _ [some (corD c), none, none]).go fun d => .nx ([some (corD c), none, none].set 1 (some d))) _))) = _
    rw [hc, hL]
    show noEx (outR ((gMinK 1 0 "others" 1 3 [some (corD c), some (.list (L.map fun i => PyData.int (i : Nat))), none]).go .rt)) = _
    show noEx (outR ((minD (L.map fun i => PyData.int (i : Nat)) ((nL c.O).map PyData.int)).go .rt)) = _
    cases minD (L.map fun i => PyData.int (i : Nat)) ((nL c.O).map PyData.int) <;> rfl
  generalize hL : (List.range k).filter (fun i => decide (cel c.t i n < 0)) = L at *
  have go := go L rfl
  have mem : ∀ i, i ∈ L ↔ i < k ∧ cel c.t i n < 0 := fun i => by
    rw [← hL, List.mem_filter, List.mem_range, decide_eq_true_iff]
  have nd : L.Nodup := by rw [← hL]; exact List.Pairwise.filter _ List.nodup_range
  have isS : (L.map fun i => PyData.int (i : Nat)).all (fun d => (keyOf ((nL c.O).map PyData.int) d).isSome) = true := List.all_eq_true.mpr fun d hd => by
    obtain ⟨i, hi, rfl⟩ := List.mem_map.mp hd
    rw [keyOf_nL (by rw [W.O]; exact ((mem i).mp hi).1)]
    rfl
  by_cases hE : L = []
  · left
    refine ⟨?_, fun i hi => ?_⟩
    · rw [go, hE]
      rfl
    · apply Classical.byContradiction
      intro z
      have := (mem i).mpr ⟨hi, by omega⟩
      rw [hE] at this
      cases this
  · right
    obtain ⟨r, hr, hmin⟩ := argmin (fun i => c.O.getD i 0) hE
    have hr' := (mem r).mp hr
    refine ⟨r, hr'.1, ?_, hr'.2, fun i hi hm => hmin i ((mem i).mpr ⟨hi, hm⟩)⟩
    rw [go]
    have fl : (L.map fun i => PyData.int (i : Nat)).filter (fun d => (L.map fun i => PyData.int (i : Nat)).all fun e => decide (keyI ((nL c.O).map PyData.int) d ≤ keyI ((nL c.O).map PyData.int) e)) = [PyData.int (r : Nat)] := by
      refine filter_one ?_ (List.mem_map.mpr ⟨r, hr, rfl⟩) ?_ fun x hx hp => ?_
      · rw [List.nodup_iff_pairwise_ne, List.pairwise_map]
        refine List.Pairwise.imp (fun {a b} h e => h ?_) nd
        have := PyData.int.inj e
        omega
      · refine List.all_eq_true.mpr fun d hd => ?_
        obtain ⟨i, hi, rfl⟩ := List.mem_map.mp hd
        rw [keyI_nL (by rw [W.O]; exact hr'.1), keyI_nL (by rw [W.O]; exact ((mem i).mp hi).1), decide_eq_true_iff]
        have := hmin i hi
        omega
      · obtain ⟨i, hi, rfl⟩ := List.mem_map.mp hx
        have h1 := List.all_eq_true.mp hp _ (List.mem_map.mpr ⟨r, hr, rfl⟩)
        rw [keyI_nL (by rw [W.O]; exact ((mem i).mp hi).1), keyI_nL (by rw [W.O]; exact hr'.1), decide_eq_true_iff] at h1
        have h2 := hmin i hi
        rw [inj i r ((mem i).mp hi).1 hr'.1 (by omega)]
    unfold minD
    rw [if_pos isS, if_neg (by simpa using hE), fl]
    rfl
end
end K11

set_option Elab.async false
set_option linter.all false
set_option maxRecDepth 100000
namespace K11
open PySem PySem.Spec L2 Fn
open _root_.Tab (Tb cel Rect turnT turnS turn_cel)
/-- the walk of column_for -/
def colStep (l g : Nat → Int) : Option Nat → Nat → Option Nat
  | none, j => if l j < 0 then some j else none
  | some f, j => if l j < 0 ∧ g j * l f > g f * l j then some j else some f
/-- what is found, after the columns of p -/
def ColI (l g : Nat → Int) (T : Nat → Nat) (p : List Nat) : Option Nat → Prop
  | none => ∀ j ∈ p, 0 ≤ l j
  | some f => f ∈ p ∧ l f < 0 ∧ ∀ j ∈ p, l j < 0 → g f * l j ≥ g j * l f ∧ (g f * l j = g j * l f → T f ≤ T j)
theorem col_step {l g : Nat → Int} {T : Nat → Nat} {p : List Nat} {b : Option Nat} {j : Nat} (h : ColI l g T p b) (hs : ∀ i ∈ p, T i ≤ T j) : ColI l g T (p ++ [j]) (colStep l g b j) := by
  cases b with
  | none =>
    show ColI l g T (p ++ [j]) (if l j < 0 then some j else none)
    by_cases z : l j < 0
    · rw [if_pos z]
      refine ⟨by simp, z, fun i hi hl => ?_⟩
      rcases List.mem_append.mp hi with hi | hi
      · have := h i hi; omega
      · rw [List.mem_singleton.mp hi]
        exact ⟨Int.le_refl _, fun _ => Nat.le_refl _⟩
    · rw [if_neg z]
      intro i hi
      rcases List.mem_append.mp hi with hi | hi
      · exact h i hi
      · rw [List.mem_singleton.mp hi]; omega
  | some f =>
    obtain ⟨h1, h2, h3⟩ := h
    show ColI l g T (p ++ [j]) (if l j < 0 ∧ g j * l f > g f * l j then some j else some f)
    by_cases z : l j < 0 ∧ g j * l f > g f * l j
    · rw [if_pos z]
      refine ⟨by simp, z.1, fun i hi hl => ?_⟩
      rcases List.mem_append.mp hi with hi | hi
      · obtain ⟨a, _⟩ := h3 i hi hl
        have e1 : g j * l f * l i < g f * l j * l i := Int.mul_lt_mul_of_neg_right z.2 hl
        have e2 : g f * l i * l j ≤ g i * l f * l j := Int.mul_le_mul_of_nonpos_right a (Int.le_of_lt z.1)
        have e3 : g j * l i * l f < g i * l j * l f := by
          have x1 : g j * l i * l f = g j * l f * l i := by rw [Int.mul_assoc, Int.mul_comm (l i), ← Int.mul_assoc]
          have x2 : g i * l j * l f = g i * l f * l j := by rw [Int.mul_assoc, Int.mul_comm (l j), ← Int.mul_assoc]
          have x3 : g f * l j * l i = g f * l i * l j := by rw [Int.mul_assoc, Int.mul_comm (l j), ← Int.mul_assoc]
          rw [x1, x2]
          omega
        have e4 : g j * l i > g i * l j := by
          apply Classical.byContradiction
          intro q
          have := Int.mul_le_mul_of_nonpos_right (Int.not_lt.mp q) (Int.le_of_lt h2)
          omega
        exact ⟨Int.le_of_lt e4, fun q => by omega⟩
      · rw [List.mem_singleton.mp hi]
        exact ⟨Int.le_refl _, fun _ => Nat.le_refl _⟩
    · rw [if_neg z]
      refine ⟨by simp [h1], h2, fun i hi hl => ?_⟩
      rcases List.mem_append.mp hi with hi | hi
      · exact h3 i hi hl
      · rw [List.mem_singleton.mp hi] at hl ⊢
        refine ⟨?_, fun _ => hs f h1⟩
        apply Classical.byContradiction
        intro q
        exact z ⟨hl, by omega⟩
def optD : Option Nat → PyData
  | none => .none
  | some f => .int (f : Nat)
section
variable {c : Sx.LC} {n k : Nat}
theorem mul64 {x y : Int} (h : Sm 40 x) : mulOk x y = true := mulOk_l (by
  unfold Sm at h
  constructor <;> omega)
theorem column_ok (W : c.Wf n k) (hk : k ≤ 100) (hn : n ≤ 100) {r : Nat} (hr : r < k) (hs : ∀ i j, i ≤ k → j < n → Sm 40 (cel c.t i j)) :
    (f_column [corD c, .int (r : Nat)] = .ok .none ∧ ∀ j, j < n → 0 ≤ cel c.t r j) ∨ ∃ q, q < n ∧ f_column [corD c, .int (r : Nat)] = .ok (.int (q : Nat)) ∧ cel c.t r q < 0 ∧
      ∀ j, j < n → cel c.t r j < 0 → cel c.t k q * cel c.t r j ≥ cel c.t k j * cel c.t r q ∧ (cel c.t k q * cel c.t r j = cel c.t k j * cel c.t r q → c.T.getD q 0 ≤ c.T.getD j 0) := by
  have i1 := ix_row c.t r (by rw [W.t.1]; omega)
  have tne : c.t ≠ [] := fun z => by have := W.t.1; rw [z] at this; simp at this
  have i2 := ix_lastR tne
  rw [W.t.1, Nat.add_sub_cancel] at i2
  have lr : (c.t.getD r []).length = n + 1 := W.t.2 _ (Sx.getD_mem (by rw [W.t.1]; omega))
  have lk : (c.t.getD k []).length = n + 1 := W.t.2 _ (Sx.getD_mem (by rw [W.t.1]; omega))
  -- the order of the columns
  obtain ⟨S, hS⟩ : ∃ S : List Nat, ((List.range n).map fun (i : Nat) => (i : Int)).mergeSort (fun a b => decide (keyI ((nL c.T).map PyData.int) (.int a) ≤ keyI ((nL c.T).map PyData.int) (.int b))) = nL S ∧ (∀ j, j ∈ S ↔ j < n) ∧ S.Pairwise fun a b => c.T.getD a 0 ≤ c.T.getD b 0 := by
    have pm := List.mergeSort_perm ((List.range n).map fun (i : Nat) => (i : Int)) (fun a b => decide (keyI ((nL c.T).map PyData.int) (.int a) ≤ keyI ((nL c.T).map PyData.int) (.int b)))
    have pw := List.pairwise_mergeSort (le := fun a b => decide (keyI ((nL c.T).map PyData.int) (.int a) ≤ keyI ((nL c.T).map PyData.int) (.int b))) (fun a b c h1 h2 => by
      rw [decide_eq_true_iff] at *; omega) (fun a b => by
      rw [Bool.or_eq_true, decide_eq_true_iff, decide_eq_true_iff]; omega) ((List.range n).map fun (i : Nat) => (i : Int))
    generalize ((List.range n).map fun (i : Nat) => (i : Int)).mergeSort (fun a b => decide (keyI ((nL c.T).map PyData.int) (.int a) ≤ keyI ((nL c.T).map PyData.int) (.int b))) = M at pm pw
    have mem : ∀ x ∈ M, ∃ j : Nat, j < n ∧ x = (j : Int) := fun x hx => by
      obtain ⟨j, hj, e⟩ := List.mem_map.mp (pm.mem_iff.mp hx)
      exact ⟨j, List.mem_range.mp hj, e.symm⟩
    have eM : M = nL (M.map Int.toNat) := by
      unfold nL
      rw [List.map_map]
      conv => lhs; rw [← List.map_id M]
      refine List.map_congr_left fun x hx => ?_
      obtain ⟨j, _, e⟩ := mem x hx
      subst e
      simp
    refine ⟨M.map Int.toNat, eM, fun j => ⟨fun h => ?_, fun h => ?_⟩, ?_⟩
    · obtain ⟨x, hx, e⟩ := List.mem_map.mp h
      obtain ⟨i, hi, e2⟩ := mem x hx
      subst e2
      rw [← e]; simpa using hi
    · exact List.mem_map.mpr ⟨(j : Int), pm.mem_iff.mpr (List.mem_map.mpr ⟨j, List.mem_range.mpr h, rfl⟩), by simp⟩
    · rw [List.pairwise_map]
      refine List.Pairwise.imp_of_mem (fun {a b} ha hb h => ?_) pw
      obtain ⟨i, hi, e⟩ := mem a ha
      obtain ⟨j, hj, e2⟩ := mem b hb
      subst e e2
      rw [decide_eq_true_iff, keyI_nL (by rw [W.T]; exact hi), keyI_nL (by rw [W.T]; exact hj)] at h
      simpa using h
  obtain ⟨hS1, hS2, hS3⟩ := hS
  have sd : sortD n ((nL c.T).map PyData.int) = .ok (.list ((nL S).map PyData.int)) := by
    unfold sortD
    rw [if_pos ⟨List.all_eq_true.mpr fun i hi => by
      rw [keyOf_nL (by rw [W.T]; exact List.mem_range.mp hi)]; rfl, by omega⟩, hS1]
  -- the walk
  have walk := forL_fold (f := aName 5) (body := b_column) (fun (j : Nat) => PyData.int (j : Nat)) (fun (b : Option Nat) (col : Option PyData) => [some (corD c), some (.int (r : Nat)), some (lnD (c.t.getD r [])), some (lnD (c.t.getD k [])), some (optD b), col])
    (colStep (cel c.t r) (cel c.t k)) (fun p b => ColI (cel c.t r) (cel c.t k) (fun j => c.T.getD j 0) p b ∧ ∀ j ∈ p, j < n) S [] none none ⟨fun j hj => absurd hj List.not_mem_nil, fun j hj => absurd hj List.not_mem_nil⟩ (fun p j q b col e I => by
      have hj : j < n := (hS2 j).mp (by rw [e]; simp)
      rw [List.nil_append] at I ⊢
      have hsort : ∀ i ∈ p, c.T.getD i 0 ≤ c.T.getD j 0 := fun i hi => by
        rw [e] at hS3
        exact (List.pairwise_append.mp hS3).2.2 i hi j (by simp)
      refine ⟨_, some (.int (j : Nat)), rfl, ?_, col_step I.1 hsort, fun i hi => ?_⟩
      · have x1 := ix_int (c.t.getD r []) j (by omega)
        have x2 := ix_int (c.t.getD k []) j (by omega)
        have y1 : (c.t.getD r []).getD j 0 = cel c.t r j := rfl
        have y2 : (c.t.getD k []).getD j 0 = cel c.t k j := rfl
        rw [y1] at x1
        rw [y2] at x2
        have n1 : dIsN .none .none = .ok (.bool true) := rfl
        have n2 : ∀ f : Nat, dIsN (.int (f : Nat)) .none = .ok (.bool false) := fun _ => rfl
        unfold b_column
        cases b with
        | none =>
          by_cases z : cel c.t r j < 0
          · simp -implicitDefEqProofs [-List.getD_eq_getElem?_getD, x1, x2, n1, optD, colStep, z]
          · simp -implicitDefEqProofs [-List.getD_eq_getElem?_getD, x1, x2, n1, optD, colStep, z]
        | some f =>
          have hf : f < n := I.2 f I.1.1
          have x3 := ix_int (c.t.getD r []) f (by omega)
          have x4 := ix_int (c.t.getD k []) f (by omega)
          have y3 : (c.t.getD r []).getD f 0 = cel c.t r f := rfl
          have y4 : (c.t.getD k []).getD f 0 = cel c.t k f := rfl
          rw [y3] at x3
          rw [y4] at x4
          have m1 : mulOk (cel c.t k j) (cel c.t r f) = true := mul64 (hs k j (Nat.le_refl _) hj)
          have m2 : mulOk (cel c.t k f) (cel c.t r j) = true := mul64 (hs k f (Nat.le_refl _) hf)
          by_cases z : cel c.t r j < 0
          · by_cases z2 : cel c.t k f * cel c.t r j < cel c.t k j * cel c.t r f
            · simp -implicitDefEqProofs [-List.getD_eq_getElem?_getD, x1, x2, x3, x4, m1, m2, n2, optD, colStep, z, z2]
            · simp -implicitDefEqProofs [-List.getD_eq_getElem?_getD, x1, x2, x3, x4, m1, m2, n2, optD, colStep, z, z2]
          · simp -implicitDefEqProofs [-List.getD_eq_getElem?_getD, x1, x2, x3, x4, m1, m2, n2, optD, colStep, z]
      · rcases List.mem_append.mp hi with hi | hi
        · exact I.2 i hi
        · rw [List.mem_singleton.mp hi]; exact hj)
  obtain ⟨j', w1, w2⟩ := walk
  rw [List.nil_append] at w2
  have e0 : rho0 6 [corD c, PyData.int (r : Nat)] = [some (corD c), some (.int (r : Nat)), none, none, none, none] := rfl
  have go : f_column [corD c, .int (r : Nat)] = .ok (optD (S.foldl (colStep (cel c.t r) (cel c.t k)) none)) := by
    unfold f_column fnG
    rw [e0]
    unfold g_column
    have p1 : gPar 2 3 (gConsA (gIx (gFld "table" 1 (gVar 0)) (gVar 1)) (gConsA (gIx (gFld "table" 1 (gVar 0)) (gNeg (gC (.int 1)))) gNilA)) [some (corD c), some (.int (r : Nat)), none, none, none, none] = .nx [some (corD c), some (.int (r : Nat)), some (lnD (c.t.getD r [])), some (lnD (c.t.getD k [])), none, none] := by
      have fd : fieldD "table" [(PyData.str "tight", iL (nL c.T)), (.str "others", iL (nL c.O)), (.str "table", tbD c.t), (.str "scale", .int c.s)] = some (tbD c.t) := rfl
      unfold gPar
      simp -implicitDefEqProofs [-List.getD_eq_getElem?_getD, fd, i1, i2]
    have p3 : gForX (aName 5) (gSortK (gB bLen (gConsA (gFld "tight" 1 (gVar 0)) gNilA)) 0 "tight" 1 6) b_column [some (corD c), some (.int (r : Nat)), some (lnD (c.t.getD r [])), some (lnD (c.t.getD k [])), some .none, none] = .nx [some (corD c), some (.int (r : Nat)), some (lnD (c.t.getD r [])), some (lnD (c.t.getD k [])), some (optD (S.foldl (colStep (cel c.t r) (cel c.t k)) none)), j'] := by
      unfold gForX
      have q1 : gSortK (gB bLen (gConsA (gFld "tight" 1 (gVar 0)) gNilA)) 0 "tight" 1 6 [some (corD c), some (.int (r : Nat)), some (lnD (c.t.getD r [])), some (lnD (c.t.getD k [])), some .none, none] = .ok (.list ((nL S).map PyData.int)) := by
        rw [← sd]
        show (if (0 : Int) ≤ ((((nL c.T).map PyData.int).length : Nat) : Int) then sortD (((((nL c.T).map PyData.int).length : Nat) : Int).toNat) _ else .bad) = _
        rw [if_pos (by omega), Int.toNat_natCast, List.length_map, nL_len, W.T]
      rw [q1]
      have q2 : (nL S).map PyData.int = S.map fun (j : Nat) => PyData.int (j : Nat) := by unfold nL; rw [List.map_map]; rfl
      rw [O.go_ok]
      refine Eq.trans ?_ w1
      rw [← q2]
      rfl
    show noEx (outR ((gPar 2 3 _ _).seq _)) = _
    rw [p1]
    show noEx (outR ((gForX (aName 5) (gSortK (gB bLen (gConsA (gFld "tight" 1 (gVar 0)) gNilA)) 0 "tight" 1 6) b_column [some (corD c), some (.int (r : Nat)), some (lnD (c.t.getD r [])), some (lnD (c.t.getD k [])), some .none, none]).seq _)) = _
    rw [p3]
    rfl
  cases hb : S.foldl (colStep (cel c.t r) (cel c.t k)) none with
  | none =>
    left
    rw [hb] at go w2
    exact ⟨go, fun j hj => w2.1 j ((hS2 j).mpr hj)⟩
  | some q =>
    right
    rw [hb] at go w2
    exact ⟨q, w2.2 q w2.1.1, go, w2.1.2.1, fun j hj hl => w2.1.2.2 j ((hS2 j).mpr hj) hl⟩
end
end K11

set_option Elab.async false
set_option linter.all false
set_option maxRecDepth 100000
/-! numbers, weights. -/
namespace K11
open PySem PySem.Spec L2 Fn
open _root_.Tab (Tb cel Rect turnT turnS turn_cel)
def wts (T : List Nat) (line : List Int) (m : Nat) : List Int := (List.range T.length).foldl (fun w u => w.set (T.getD u 0) (line.getD u 0)) (List.replicate m 0)
theorem wts_len (T : List Nat) (line : List Int) (m : Nat) : (wts T line m).length = m := by
  unfold wts
  have : ∀ (L : List Nat) (w : List Int), (L.foldl (fun w u => w.set (T.getD u 0) (line.getD u 0)) w).length = w.length := fun L => by
    induction L with
    | nil => intro w; rfl
    | cons a L ih => intro w; rw [List.foldl_cons, ih, List.length_set]
  rw [this, List.length_replicate]
theorem rep0 (m : Nat) : (List.replicate m [PyData.int 0]).flatten = (List.replicate m (0 : Int)).map PyData.int := by
  induction m with
  | zero => rfl
  | succ m ih => rw [List.replicate_succ, List.replicate_succ, List.flatten_cons, List.map_cons, ih]; rfl
theorem set_ints (w : List Int) (i : Nat) (x : Int) : (w.map PyData.int).set i (.int x) = (w.set i x).map PyData.int := by rw [List.map_set]
section
variable {c : Sx.LC} {n k : Nat} {fs : List (List Int × Int)} {gain : List Int}
theorem weights_ok (hT : c.T.length ≤ 100) (hO : c.O.length ≤ 100) (hm : ∀ f ∈ c.T, f < c.T.length + c.O.length) {line : List Int} (hl : c.T.length ≤ line.length) : f_Corner_weights [corD c, lnD line] = .ok (lnD (wts c.T line (c.T.length + c.O.length))) := by
  have e0 : rho0 5 [corD c, lnD line] = [some (corD c), some (lnD line), none, none, none] := rfl
  have p1 : g2L dRep (gLst (gConsA (gC (.int 0)) gNilA)) (gAdd (gB bLen (gConsA (gFld "tight" 1 (gVar 0)) gNilA)) (gB bLen (gConsA (gFld "others" 1 (gVar 0)) gNilA))) [some (corD c), some (lnD line), none, none, none] = .ok (lnD (List.replicate (c.T.length + c.O.length) 0)) := by
    have h1 : (((nL c.T).map PyData.int).length : Int) + (((nL c.O).map PyData.int).length : Int) = ((c.T.length + c.O.length : Nat) : Int) := by
      rw [List.length_map, List.length_map, nL_len, nL_len]; omega
    have h2 : repL [PyData.int 0] ((c.T.length + c.O.length : Nat) : Int) = .ok ((List.replicate (c.T.length + c.O.length) (0 : Int)).map PyData.int) := by
      unfold repL
      rw [if_pos ⟨by unfold lim; omega, by unfold lim; omega, by rw [Int.toNat_natCast, List.length_singleton]; unfold lim; omega⟩, Int.toNat_natCast, rep0]
    have ga : gLst (gConsA (gC (.int 0)) gNilA) [some (corD c), some (lnD line), none, none, none] = .ok (.list [.int 0]) := by
      show (if [PyData.int 0].length ≤ lim then O.ok (PyData.list [PyData.int 0]) else .bad) = _
      rw [if_pos (lim_ge (by decide))]
    have gb : gAdd (gB bLen (gConsA (gFld "tight" 1 (gVar 0)) gNilA)) (gB bLen (gConsA (gFld "others" 1 (gVar 0)) gNilA)) [some (corD c), some (lnD line), none, none, none] = .ok (.int ((((nL c.T).map PyData.int).length : Int) + (((nL c.O).map PyData.int).length : Int))) := rfl
    unfold g2L
    rw [ga, O.bind_ok, gb, O.bind_ok, h1]
    show O.bind (repL [PyData.int 0] ((c.T.length + c.O.length : Nat) : Int)) (fun ds => O.ok (PyData.list ds)) = _
    rw [h2]
    rfl
  have walk := forL_fold (f := aTup (aCons (aName 3) (aCons (aName 4) aNil))) (body := gSetIx 2 (gVar 4) (gIx (gVar 1) (gVar 3))) (fun (u : Nat) => PyData.tuple [.int (u : Nat), .int ((c.T.getD u 0 : Nat) : Int)]) (fun (w : List Int) (j : Option PyData × Option PyData) => [some (corD c), some (lnD line), some (lnD w), j.1, j.2])
    (fun w u => w.set (c.T.getD u 0) (line.getD u 0)) (fun p w => w.length = c.T.length + c.O.length) (List.range c.T.length) [] (List.replicate (c.T.length + c.O.length) 0) (none, none) (by rw [List.length_replicate]) (fun p u q w j e I => by
      have hu : u < c.T.length := List.mem_range.mp (by rw [e]; simp)
      have x1 := ix_int line u (by omega)
      have hf : c.T.getD u 0 < w.length := by rw [I]; exact hm _ (Sx.getD_mem hu)
      have hx := Fn.ixN_nat hf
      refine ⟨_, (some (.int (u : Nat)), some (.int ((c.T.getD u 0 : Nat) : Int))), rfl, ?_, by rw [List.length_set]; exact I⟩
      simp -implicitDefEqProofs [-List.getD_eq_getElem?_getD, x1, hx, lsAt])
  obtain ⟨j', w1, w2⟩ := walk
  unfold f_Corner_weights fnG
  rw [e0]
  unfold g_Corner_weights
  show outR ((R.seq ((g2L _ _ _ _).go fun d => .nx ([some (corD c), some (lnD line), none, none, none].set 2 (some d))) _)) = _
  rw [p1]
  have q2 : gEnum (gConsA (gFld "tight" 1 (gVar 0)) gNilA) [some (corD c), some (lnD line), some (lnD (List.replicate (c.T.length + c.O.length) 0)), none, none] = .ok ((List.range c.T.length).map fun (u : Nat) => PyData.tuple [.int (u : Nat), .int ((c.T.getD u 0 : Nat) : Int)]) := by
    show O.ok (enumD ((nL c.T).map PyData.int)) = _
    rw [enum_ints, nL_len]
    congr 1
    refine List.map_congr_left fun u _ => ?_
    rw [nL_getD]
  show outR (((gEnum _ [some (corD c), some (lnD line), some (lnD (List.replicate (c.T.length + c.O.length) 0)), none, none]).go fun ds => forL _ _ ds [some (corD c), some (lnD line), some (lnD (List.replicate (c.T.length + c.O.length) 0)), none, none]).seq _) = _
  rw [q2, O.go_ok]
  show outR ((forL (aTup (aCons (aName 3) (aCons (aName 4) aNil))) (gSetIx 2 (gVar 4) (gIx (gVar 1) (gVar 3))) ((List.range c.T.length).map fun (u : Nat) => PyData.tuple [.int (u : Nat), .int ((c.T.getD u 0 : Nat) : Int)]) [some (corD c), some (lnD line), some (lnD (List.replicate (c.T.length + c.O.length) 0)), none, none]).seq _) = _
  have w1 : forL (aTup (aCons (aName 3) (aCons (aName 4) aNil))) (gSetIx 2 (gVar 4) (gIx (gVar 1) (gVar 3))) ((List.range c.T.length).map fun (u : Nat) => PyData.tuple [.int (u : Nat), .int ((c.T.getD u 0 : Nat) : Int)]) [some (corD c), some (lnD line), some (lnD (List.replicate (c.T.length + c.O.length) 0)), none, none] = _ := w1
  rw [w1]
  rfl
theorem wf_lt (h : c.Inv n k fs gain) : ∀ f ∈ c.T, f < c.T.length + c.O.length := fun f hf => by
  obtain ⟨j, hj, e⟩ := List.getElem_of_mem hf
  have := h.good.rT j (by rw [← h.wf.T]; exact hj)
  rw [h.wf.T, h.wf.O]
  have e2 : (c.cr n k fs gain).T j = f := by
    show c.T.getD j 0 = f
    rw [getD_eq hj]; exact e
  rw [e2] at this
  exact this
theorem meth_ok {m : Str} {nn : Nat} {f : List PyData → Fn.O PyData} {ga : Rho → Fn.O (List PyData)} {ρ : Rho} {i : Nat} {ds : List PyData} {es : List PyData} (hi : ρ[i]? = some (some (corD c))) (ho : isOb 1 m (corD c) = true) (h1 : ga ρ = .ok ds) (hn : ds.length + 1 = nn) (hf : f (corD c :: ds) = .ok (.list es)) : gMethL 1 m nn f (gVar i) ga ρ = .ok (.list es) := by
  unfold gMethL gVar
  rw [hi]
  show (if isOb 1 m (corD c) = true then _ else _) = _
  rw [if_pos ho, h1]
  show (if ds.length + 1 = nn then _ else _) = _
  rw [if_pos hn, hf]
  rfl
theorem gainw_ok (h : c.Inv n k fs gain) (hn : n ≤ 3) (hk : k ≤ 50) : f_Corner_gain_weights [corD c] = .ok (lnD (wts c.T (c.t.getD k []) (n + k))) := by
  have W := h.wf
  have e0 : rho0 1 [corD c] = [some (corD c)] := rfl
  have tne : c.t ≠ [] := fun z => by have := W.t.1; rw [z] at this; simp at this
  have i2 := ix_lastR tne
  rw [W.t.1, Nat.add_sub_cancel] at i2
  have lk : (c.t.getD k []).length = n + 1 := W.t.2 _ (Sx.getD_mem (by rw [W.t.1]; omega))
  have hw := weights_ok (c := c) (by rw [W.T]; omega) (by rw [W.O]; omega) (wf_lt h) (line := c.t.getD k []) (by rw [W.T]; omega)
  have m := meth_ok (c := c) (m := "weights") (nn := 2) (f := f_Corner_weights) (ga := gConsA (gIx (gFld "table" 1 (gVar 0)) (gNeg (gC (.int 1)))) gNilA) (ρ := [some (corD c)]) (i := 0) (ds := [lnD (c.t.getD k [])]) rfl rfl (by
    show O.bind (O.bind (O.ok (tbD c.t)) fun d => O.bind (O.ok (PyData.int (-1))) fun e => noEx (dIx d e)) _ = _
    rw [O.bind_ok, O.bind_ok, i2]
    rfl) rfl hw
  unfold f_Corner_gain_weights fnG
  rw [e0]
  unfold g_Corner_gain_weights
  show outR ((gMethL _ _ _ _ _ _ _).go .rt) = _
  rw [m, W.T, W.O]
  rfl
theorem nonew_ok (h : c.Inv n k fs gain) (hn : n ≤ 3) (hk : k ≤ 50) {r : Nat} (hr : r < k) : f_Corner_none_weights [corD c, .int (r : Nat)] = .ok (lnD ((wts c.T (c.t.getD r []) (n + k)).set (c.O.getD r 0) c.s)) := by
  have W := h.wf
  have e0 : rho0 3 [corD c, .int (r : Nat)] = [some (corD c), some (.int (r : Nat)), none] := rfl
  have i1 := ix_row c.t r (by rw [W.t.1]; omega)
  have lk : (c.t.getD r []).length = n + 1 := W.t.2 _ (Sx.getD_mem (by rw [W.t.1]; omega))
  have hw := weights_ok (c := c) (by rw [W.T]; omega) (by rw [W.O]; omega) (wf_lt h) (line := c.t.getD r []) (by rw [W.T]; omega)
  rw [W.T, W.O] at hw
  have m := meth_ok (c := c) (m := "weights") (nn := 2) (f := f_Corner_weights) (ga := gConsA (gIx (gFld "table" 1 (gVar 0)) (gVar 1)) gNilA) (ρ := [some (corD c), some (.int (r : Nat)), none]) (i := 0) (ds := [lnD (c.t.getD r [])]) rfl rfl (by
    show O.bind (O.bind (O.ok (tbD c.t)) fun d => O.bind (O.ok (PyData.int (r : Nat))) fun e => noEx (dIx d e)) _ = _
    rw [O.bind_ok, O.bind_ok, i1]
    rfl) rfl hw
  have i3 := ix_int (nL c.O) r (by rw [nL_len, W.O]; exact hr)
  rw [nL_getD] at i3
  have hO : c.O.getD r 0 < (wts c.T (c.t.getD r []) (n + k)).length := by
    rw [wts_len]
    exact h.good.rO r hr
  have hx := Fn.ixN_nat hO
  have fd1 : fieldD "others" [(PyData.str "tight", lnD (nL c.T)), (.str "others", lnD (nL c.O)), (.str "table", tbD c.t), (.str "scale", .int c.s)] = some (lnD (nL c.O)) := rfl
  have fd2 : fieldD "scale" [(PyData.str "tight", lnD (nL c.T)), (.str "others", lnD (nL c.O)), (.str "table", tbD c.t), (.str "scale", .int c.s)] = some (.int c.s) := rfl
  unfold f_Corner_none_weights fnG
  rw [e0]
  unfold g_Corner_none_weights
  rw [gSeq_ap, gSet_ap, m]
  generalize wts c.T (c.t.getD r []) (n + k) = ws at *
  simp -implicitDefEqProofs [-List.getD_eq_getElem?_getD, fd1, fd2, i3, hx, lsAt]
/-! ### the dict of slacks -/
theorem putI_new {kvs : List (Int × Int)} {a v : Int} (h : ∀ p ∈ kvs, p.1 ≠ a) : putI kvs a v = kvs ++ [(a, v)] := by
  unfold putI
  rw [if_neg]
  intro z
  obtain ⟨p, hp, e⟩ := List.any_eq_true.mp z
  exact h p hp (of_decide_eq_true e)
theorem dict_ok (f : PyData → Rho → Fn.O Rho) (ek ev : Rho → Fn.O PyData) (ρ : Rho) (φ : Nat → PyData) (a v : Nat → Int) : ∀ (L : List Nat) (kvs : List (Int × Int)), (∀ i ∈ L, ∃ ρ1, f (φ i) ρ = .ok ρ1 ∧ ek ρ1 = .ok (.int (a i)) ∧ ev ρ1 = .ok (.int (v i))) → (∀ i ∈ L, ∀ p ∈ kvs, p.1 ≠ a i) → (L.Pairwise fun i j => a i ≠ a j) →
    dictL f ek ev ρ kvs (L.map φ) = .ok (kvs ++ L.map fun i => (a i, v i))
  | [], kvs, _, _, _ => by
    show O.ok kvs = O.ok (kvs ++ [])
    rw [List.append_nil]
  | i :: L, kvs, h, hk, hp => by
    obtain ⟨ρ1, h1, h2, h3⟩ := h i List.mem_cons_self
    have hp' := List.pairwise_cons.mp hp
    rw [List.map_cons]
    unfold dictL
    rw [h1, O.bind_ok, h2]
    show O.bind (noEx (O.ok (a i))) _ = _
    show O.bind (noEx ((ev ρ1).bind intO)) _ = _
    rw [h3]
    show dictL f ek ev ρ (putI kvs (a i) (v i)) (L.map φ) = _
    rw [putI_new (hk i List.mem_cons_self), dict_ok f ek ev ρ φ a v L _ (fun j hj => h j (List.mem_cons_of_mem _ hj)) (fun j hj p hpp => ?_) hp'.2, List.map_cons, List.append_assoc]
    · rfl
    · rcases List.mem_append.mp hpp with z | z
      · exact hk j (List.mem_cons_of_mem _ hj) p z
      · rw [List.mem_singleton.mp z]
        exact hp'.1 j hj
theorem get2_ok {g gk gd : Rho → Fn.O PyData} {ρ : Rho} {kvs : List (Int × Int)} {a : Int} (h1 : g ρ = .ok (D.dc kvs)) (h2 : gk ρ = .ok (.int a)) (h3 : gd ρ = .ok (.int 0)) : gGet2 g gk gd ρ = .ok (.int ((getI kvs a).getD 0)) := by
  unfold gGet2
  rw [h1]
  show O.bind (gk ρ) _ = _
  rw [h2]
  show O.bind (gd ρ) _ = _
  rw [h3]
  show (match List.find? _ (kvs.map fun p => ((PyData.int p.1, PyData.int p.2) : PyData × PyData)) with
    | some p => O.ok p.2
    | none => O.ok (PyData.int 0)) = _
  rw [find_dc]
  unfold getI
  cases kvs.find? (fun p => decide (p.1 = a)) <;> rfl
theorem slack_get (h : c.Inv n k fs gain) (f : Nat) : (getI ((List.range k).map fun i => (((c.O.getD i 0 : Nat) : Int), cel c.t i n)) (f : Int)).getD 0 = c.slack n f := by
  unfold getI
  cases e : ((List.range k).map fun i => (((c.O.getD i 0 : Nat) : Int), cel c.t i n)).find? (fun p => decide (p.1 = (f : Int))) with
  | some p =>
    have h1 := List.mem_of_find?_eq_some e
    have h2 := of_decide_eq_true (List.find?_some (p := fun p : Int × Int => decide (p.1 = (f : Int))) e)
    obtain ⟨i, hi, rfl⟩ := List.mem_map.mp h1
    have hi := List.mem_range.mp hi
    have h2 : ((c.O.getD i 0 : Nat) : Int) = f := h2
    have h3 : c.O.getD i 0 = f := by omega
    rw [← h3, Sx.slack_O h hi]
    rfl
  | none =>
    have h1 := List.find?_eq_none.mp e
    unfold Sx.LC.slack
    cases e2 : c.O.idxOf? f with
    | none => rfl
    | some i =>
      exfalso
      obtain ⟨hi, h3, _⟩ := List.idxOf?_eq_some_iff.mp e2
      refine h1 _ (List.mem_map.mpr ⟨i, List.mem_range.mpr (by rw [← h.wf.O]; exact hi), rfl⟩) ?_
      rw [decide_eq_true_iff, getD_eq hi, h3]
end
end K11

set_option Elab.async false
set_option linter.all false
set_option maxRecDepth 100000
namespace K11
open PySem PySem.Spec L2 Fn
open _root_.Tab (Tb cel Rect turnT turnS turn_cel)
section
variable {c : Sx.LC} {n k : Nat} {fs : List (List Int × Int)} {gain : List Int} {ts gs : List Int} {rs : List PyData} {bs : Box}
def numsL (c : Sx.LC) (n first : Nat) (bs : Box) : List Int := (List.range n).map fun u => (bs.getD u (0, 0)).1 * c.s + c.slack n (first + 2 * u + 1)
theorem enum_box (bs : Box) : enumD (bs.map spanD) = (List.range bs.length).map fun u => .tuple [.int (u : Nat), spanD (bs.getD u (0, 0))] := by
  apply List.ext_getElem?
  intro i
  unfold enumD
  rw [List.getElem?_mapIdx, List.getElem?_map, List.getElem?_map]
  by_cases h : i < bs.length
  · rw [List.getElem?_eq_getElem h, List.getElem?_range h]
    show some (PyData.tuple [.int i, spanD bs[i]]) = some (.tuple [.int i, spanD (bs.getD i (0, 0))])
    rw [getD_eq h]
  · rw [List.getElem?_eq_none (by omega), List.getElem?_eq_none (by rw [List.length_range]; omega)]; rfl
theorem numbers_ok (h : c.Inv n k fs gain) (hn : n ≤ 3) (hk : k ≤ 50) (hr : rs.length ≤ 6) (hb : bs.length = n) (hlo : ∀ b ∈ bs, bd 0 20 b.1) : f_Corner_numbers [corD c, pD ts gs rs, boxD bs] = .ok (lnD (numsL c n rs.length bs)) := by
  have W := h.wf
  have e0 : rho0 9 [corD c, pD ts gs rs, boxD bs] = [some (corD c), some (pD ts gs rs), some (boxD bs), none, none, none, none, none, none] := rfl
  have fdt : fieldD "table" [(PyData.str "tight", lnD (nL c.T)), (.str "others", lnD (nL c.O)), (.str "table", tbD c.t), (.str "scale", .int c.s)] = some (tbD c.t) := rfl
  have fds : fieldD "scale" [(PyData.str "tight", lnD (nL c.T)), (.str "others", lnD (nL c.O)), (.str "table", tbD c.t), (.str "scale", .int c.s)] = some (.int c.s) := rfl
  obtain ⟨kvs, hkvs⟩ : ∃ kvs, kvs = (List.range k).map fun i => (((c.O.getD i 0 : Nat) : Int), cel c.t i n) := ⟨_, rfl⟩
  have p1 : gDict [4, 5] (aTup (aCons (aName 4) (aCons (aName 5) aNil))) (gVar 5) (gIx (gIx (gFld "table" 1 (gVar 0)) (gVar 4)) (gNeg (gC (.int 1)))) (gEnum (gConsA (gFld "others" 1 (gVar 0)) gNilA)) [some (corD c), some (pD ts gs rs), some (boxD bs), none, none, none, none, none, none] = .ok (D.dc kvs) := by
    have q1 : gEnum (gConsA (gFld "others" 1 (gVar 0)) gNilA) [some (corD c), some (pD ts gs rs), some (boxD bs), none, none, none, none, none, none] = .ok ((List.range k).map fun (u : Nat) => PyData.tuple [.int (u : Nat), .int ((c.O.getD u 0 : Nat) : Int)]) := by
      show O.ok (enumD ((nL c.O).map PyData.int)) = _
      rw [enum_ints, nL_len, W.O]
      congr 1
      refine List.map_congr_left fun u _ => ?_
      rw [nL_getD]
    unfold gDict
    rw [q1, O.bind_ok, if_pos (by rw [List.length_map, List.length_range]; exact lim_ge (by omega))]
    have q2 := dict_ok (aTup (aCons (aName 4) (aCons (aName 5) aNil))) (gVar 5) (gIx (gIx (gFld "table" 1 (gVar 0)) (gVar 4)) (gNeg (gC (.int 1)))) (wipeR [some (corD c), some (pD ts gs rs), some (boxD bs), none, none, none, none, none, none] [4, 5]) (fun (u : Nat) => PyData.tuple [.int (u : Nat), .int ((c.O.getD u 0 : Nat) : Int)]) (fun i => ((c.O.getD i 0 : Nat) : Int)) (fun i => cel c.t i n) (List.range k) [] (fun i hi => ⟨_, rfl, rfl, by
      have hi := List.mem_range.mp hi
      have i1 := ix_row c.t i (by rw [W.t.1]; omega)
      have hl : (c.t.getD i []).length = n + 1 := W.t.2 _ (Sx.getD_mem (by rw [W.t.1]; omega))
      have i2 := ix_last (l := c.t.getD i []) (by intro z; rw [z] at hl; simp at hl)
      rw [hl, Nat.add_sub_cancel] at i2
      have y1 : (c.t.getD i []).getD n 0 = cel c.t i n := rfl
      rw [y1] at i2
      simp -implicitDefEqProofs [-List.getD_eq_getElem?_getD, fdt, i1, i2]⟩) (fun i hi p hp => by cases hp) (by
        refine List.Pairwise.imp_of_mem (R := fun a b => a < b) (fun {a b} ha hb hab e => ?_) List.pairwise_lt_range
        have := h.good.oinj a b (List.mem_range.mp ha) (List.mem_range.mp hb) (by
          show c.O.getD a 0 = c.O.getD b 0
          omega)
        omega)
    rw [List.nil_append, ← hkvs] at q2
    rw [q2]
    rfl
  have hc := comp_of (vs := [7, 8]) (f := aTup (aCons (aName 7) (aCons (aName 8) aNil))) (t := gYes) (e := (gAdd (gMul (gIx (gVar 8) (gC (.int 0))) (gFld "scale" 1 (gVar 0))) (gGet2 (gVar 3) (gAdd (gVar 6) (gMul (gC (.int 2)) (gVar 7))) (gC (.int 0))))) (gi := gEnum (gConsA (gVar 2) gNilA))
    (ρ := [some (corD c), some (pD ts gs rs), some (boxD bs), some (D.dc kvs), none, none, some (.int ((rs.length : Int) + 1)), none, none]) (List.range n) (fun u => .tuple [.int (u : Nat), spanD (bs.getD u (0, 0))]) (fun u => .int ((bs.getD u (0, 0)).1 * c.s + c.slack n (rs.length + 2 * u + 1))) (by
      show O.ok (enumD (bs.map spanD)) = _
      rw [enum_box, hb]) (by rw [List.length_range]; exact lim_ge (by omega)) fun u hu => ⟨_, rfl, rfl, by
      have hu := List.mem_range.mp hu
      have hm : mulOk (bs.getD u (0, 0)).1 c.s = true := mulOk_l (by
        obtain ⟨a, b⟩ := hlo _ (Sx.getD_mem (x := (0, 0)) (by omega : u < bs.length))
        constructor <;> omega)
      have hm2 : mulOk 2 (u : Int) = true := mulOk_l (by constructor <;> decide)
      have sl := slack_get h (rs.length + 2 * u + 1)
      rw [← hkvs] at sl
      have ek : (rs.length : Int) + 1 + 2 * (u : Int) = ((rs.length + 2 * u + 1 : Nat) : Int) := by omega
      rw [← sl, ← ek]
      have g2 := get2_ok (g := gVar 3) (gk := gAdd (gVar 6) (gMul (gC (.int 2)) (gVar 7))) (gd := gC (.int 0)) (ρ := [some (corD c), some (pD ts gs rs), some (boxD bs), some (D.dc kvs), none, none, some (.int ((rs.length : Int) + 1)), some (.int (u : Nat)), some (spanD (bs.getD u (0, 0)))]) (kvs := kvs) (a := (rs.length : Int) + 1 + 2 * (u : Int)) rfl (by simp -implicitDefEqProofs [hm2]) rfl
      have g1 : gMul (gIx (gVar 8) (gC (.int 0))) (gFld "scale" 1 (gVar 0)) [some (corD c), some (pD ts gs rs), some (boxD bs), some (D.dc kvs), none, none, some (.int ((rs.length : Int) + 1)), some (.int (u : Nat)), some (spanD (bs.getD u (0, 0)))] = .ok (.int ((bs.getD u (0, 0)).1 * c.s)) := by
        have i0 : dIx (spanD (bs.getD u (0, 0))) (.int 0) = .ok (.int (bs.getD u (0, 0)).1) := rfl
        simp -implicitDefEqProofs [-List.getD_eq_getElem?_getD, fds, i0, hm]
      show gAdd _ _ [some (corD c), some (pD ts gs rs), some (boxD bs), some (D.dc kvs), none, none, some (.int ((rs.length : Int) + 1)), some (.int (u : Nat)), some (spanD (bs.getD u (0, 0)))] = _
      show O.bind _ _ = _
      rw [g1, O.bind_ok, g2]
      rfl⟩
  unfold f_Corner_numbers fnG
  rw [e0]
  unfold g_Corner_numbers
  rw [gSeq_ap, gSet_ap, p1, O.go_ok]
  have p2 : gAdd (gB bLen (gConsA (gFld "rows" 0 (gVar 1)) gNilA)) (gC (.int 1)) ([some (corD c), some (pD ts gs rs), some (boxD bs), none, none, none, none, none, none].set 3 (some (D.dc kvs))) = .ok (.int ((rs.length : Int) + 1)) := rfl
  rw [R.seq_nx, gSeq_ap, gSet_ap, p2, O.go_ok, R.seq_nx]
  show outR ((gComp [7, 8] (aTup (aCons (aName 7) (aCons (aName 8) aNil))) gYes (gAdd (gMul (gIx (gVar 8) (gC (.int 0))) (gFld "scale" 1 (gVar 0))) (gGet2 (gVar 3) (gAdd (gVar 6) (gMul (gC (.int 2)) (gVar 7))) (gC (.int 0)))) (gEnum (gConsA (gVar 2) gNilA)) [some (corD c), some (pD ts gs rs), some (boxD bs), some (D.dc kvs), none, none, some (.int ((rs.length : Int) + 1)), none, none]).go .rt) = _
  rw [hc]
  show O.ok (PyData.list _) = O.ok (PyData.list _)
  unfold numsL
  rw [List.map_map]
  rfl
end
end K11

set_option Elab.async false
set_option linter.all false
set_option maxRecDepth 100000
/-! The walk of loose. -/
namespace K11
open PySem PySem.Spec L2 Fn
open _root_.Tab (Tb cel Rect turnT turnS turn_cel)
section
variable {c : Sx.LC} {n k : Nat} {fs : List (List Int × Int)} {gain ts gs : List Int} {rs : List PyData} {bs : Box}
theorem fvec_bd (F : FsOk fs n) (hg : ∀ x ∈ gain, bd (-50) 50 x) (f u : Nat) : (Sx.fvec fs gain f u).natAbs ≤ 50 := by
  unfold Sx.fvec
  split
  · rename_i h
    have hm := Sx.getD_mem (x := (([], 0) : List Int × Int)) h
    by_cases z : u < (fs.getD f ([], 0)).1.length
    · obtain ⟨a, b⟩ := F.num _ hm _ (Sx.getD_mem (x := 0) z)
      omega
    · rw [Sx.getD_big (by omega)]; decide
  · by_cases z : u < gain.length
    · obtain ⟨a, b⟩ := hg _ (Sx.getD_mem (x := 0) z)
      omega
    · rw [Sx.getD_big (by omega)]; decide
theorem fbd_bd (F : FsOk fs n) (f : Nat) : (Sx.fbd fs f).natAbs ≤ 2000 := by
  unfold Sx.fbd
  by_cases h : f < fs.length
  · obtain ⟨a, b⟩ := F.bnd _ (Sx.getD_mem (x := (([], 0) : List Int × Int)) h)
    omega
  · rw [Sx.getD_big (by omega)]; decide
theorem tab_sm (F : FsOk fs n) (hg : ∀ x ∈ gain, bd (-50) 50 x) : (c.tab n k fs gain).Sm k where
  tv := fun j _ u _ => by
    show ((if j < n then Sx.fvec fs gain (c.T.getD j 0) else Sx.unitE j) u).natAbs ≤ 50
    split
    · exact fvec_bd F hg _ _
    · unfold Sx.unitE
      split <;> decide
  av := fun i _ u _ => by
    show ((if i < k then Sx.fvec fs gain (c.O.getD i 0) else Sx.fvec fs gain (n + k)) u).natAbs ≤ 50
    split
    · exact fvec_bd F hg _ _
    · exact fvec_bd F hg _ _
  tb := fun j _ => by
    show (if j < n then Sx.fbd fs (c.T.getD j 0) else 0).natAbs ≤ 2000
    split
    · exact fbd_bd F _
    · decide
  bv := fun i _ => by
    show (if i < k then Sx.fbd fs (c.O.getD i 0) else 0).natAbs ≤ 2000
    split
    · exact fbd_bd F _
    · decide
theorem sm40 {x : Int} {m : Nat} (h : x.natAbs ≤ m) (hm : m < 2 ^ 40) : Sm 40 x := Nat.lt_of_le_of_lt h hm
theorem inv_sm (h : c.Inv n k fs gain) (hn : n ≤ 3) (F : FsOk fs n) (hg : ∀ x ∈ gain, bd (-50) 50 x) : Sm 40 c.s ∧ (∀ i j, i ≤ k → j < n → Sm 40 (cel c.t i j)) ∧ ∀ i, i ≤ k → Sm 40 (cel c.t i n) := by
  have b := tab_sm (c := c) (k := k) F hg
  have s1 := Sx.s_bd h.good.ok h.prim b
  have s0 := h.good.ok.s
  have s1 : c.s ≤ 750000 := s1
  have s0 : 0 < c.s := s0
  refine ⟨sm40 (m := 750000) (by omega) (by decide), fun i j hi hj => ?_, fun i hi => ?_⟩
  · have := Sx.l_bd h.good.ok h.prim b i hi j (by omega)
    have this : (if j < n then cel c.t i j else 0).natAbs ≤ 750000 := this
    rw [if_pos hj] at this
    exact sm40 this (by decide)
  · have := Sx.L_bd h.good.ok h.prim b i hi
    exact sm40 (show (cel c.t i n).natAbs ≤ 6000000000 from this) (by decide)
/-- what loose tells -/
def mostR (c : Sx.LC) (n k first : Nat) (bs : Box) : PyData := .tuple [.str "most", .tuple [lnD (numsL c n first bs), .int c.s], lnD (wts c.T (c.t.getD k []) (n + k)), .int c.s]
def noneR (c : Sx.LC) (n k r : Nat) : PyData := .tuple [.str "none", lnD ((wts c.T (c.t.getD r []) (n + k)).set (c.O.getD r 0) c.s)]
def LSpec (n k first : Nat) (fs : List (List Int × Int)) (gain : List Int) (bs : Box) (d : PyData) : Prop :=
  (∃ c : Sx.LC, c.Inv n k fs gain ∧ (∀ i, i < k → 0 ≤ cel c.t i n) ∧ d = mostR c n k first bs) ∨ ∃ (c : Sx.LC) (r : Nat), c.Inv n k fs gain ∧ r < k ∧ cel c.t r n < 0 ∧ (∀ j, j < n → 0 ≤ cel c.t r j) ∧ d = noneR c n k r
theorem most_ok (h : c.Inv n k fs gain) (hn : n ≤ 3) (hk : k ≤ 50) (hr : rs.length ≤ 6) (hb : bs.length = n) (hlo : ∀ b ∈ bs, bd 0 20 b.1) : g_most [some (pD ts gs rs), some (boxD bs), some (corD c), none, none] = .ok (mostR c n k rs.length bs) := by
  have m1 := meth_ok (c := c) (m := "numbers") (nn := 3) (f := f_Corner_numbers) (ga := gConsA (gVar 0) (gConsA (gVar 1) gNilA)) (ρ := [some (pD ts gs rs), some (boxD bs), some (corD c), none, none]) (i := 2) rfl rfl (ds := [pD ts gs rs, boxD bs]) rfl rfl (numbers_ok (ts := ts) (gs := gs) h hn hk hr hb hlo)
  have m2 := meth_ok (c := c) (m := "gain_weights") (nn := 1) (f := f_Corner_gain_weights) (ga := gNilA) (ρ := [some (pD ts gs rs), some (boxD bs), some (corD c), none, none]) (i := 2) rfl rfl (ds := []) rfl rfl (gainw_ok h hn hk)
  unfold g_most Fn.gTup
  show O.bind (O.bind (O.ok (PyData.str "most")) fun d => O.bind (O.bind (O.bind (O.bind (gMethL _ _ _ _ _ _ _) fun d => O.bind _ _) _) fun d => O.bind (O.bind (gMethL _ _ _ _ _ _ _) fun d => O.bind _ _) _) _) _ = _
  rw [m1, m2]
  rfl
theorem none_ok (h : c.Inv n k fs gain) (hn : n ≤ 3) (hk : k ≤ 50) {r : Nat} (hr : r < k) : g_none [some (pD ts gs rs), some (boxD bs), some (corD c), some (.int (r : Nat)), none] = .ok (noneR c n k r) := by
  have m1 := meth_ok (c := c) (m := "none_weights") (nn := 2) (f := f_Corner_none_weights) (ga := gConsA (gVar 3) gNilA) (ρ := [some (pD ts gs rs), some (boxD bs), some (corD c), some (.int (r : Nat)), none]) (i := 2) rfl rfl (ds := [.int (r : Nat)]) rfl rfl (nonew_ok h hn hk hr)
  unfold g_none Fn.gTup
  show O.bind (O.bind (O.ok (PyData.str "none")) fun d => O.bind (O.bind (gMethL _ _ _ _ _ _ _) fun d => O.bind _ _) _) _ = _
  rw [m1]
  rfl
theorem nL_set (T : List Nat) (i x : Nat) : (nL T).set i (x : Int) = nL (T.set i x) := by unfold nL; rw [List.map_set]
theorem loose_walk (hn : n ≤ 3) (hk : n + k = fs.length) (F : FsOk fs n) (hg : ∀ x ∈ gain, bd (-50) 50 x) (hr : rs.length ≤ 6) (hb : bs.length = n) (hlo : ∀ b ∈ bs, bd 0 20 b.1) (hM : n + k ≤ 12) : ∀ (f m : Nat) (c : Sx.LC), Sx.Walk n k fs gain m c → 1728 < f + m →
    ∃ d, looseIt (pD ts gs rs) (boxD bs) f (nL c.T) (nL c.O) (tbD c.t) c.s = .ok d ∧ LSpec n k rs.length fs gain bs d
  | 0, m, c, w, hf => by
    have := w.short hn (M := 12) hM (by decide)
    have e : 12 ^ 3 = 1728 := by decide
    omega
  | f + 1, m, c, w, hf => by
    have h := w.inv
    have W := h.wf
    obtain ⟨s1, s2, s3⟩ := inv_sm h hn F hg
    unfold looseIt
    rcases missed_ok W (by omega) h.good.oinj with ⟨e1, hno⟩ | ⟨r, hr', e1, hneg, hmin⟩
    · have e1 : f_missed [D.cor (nL c.T) (nL c.O) (tbD c.t) c.s] = .ok .none := e1
      rw [e1]
      show ∃ d, noEx (g_most _) = _ ∧ _
      rw [most_ok (ts := ts) (gs := gs) h hn (by omega) hr hb hlo]
      exact ⟨_, rfl, .inl ⟨c, h, hno, rfl⟩⟩
    · have e1 : f_missed [D.cor (nL c.T) (nL c.O) (tbD c.t) c.s] = .ok (.int (r : Nat)) := e1
      rw [e1]
      rcases column_ok W (by omega) (by omega) hr' s2 with ⟨e2, hno⟩ | ⟨q, hq, e2, hp, hbest⟩
      · have e2 : f_column [D.cor (nL c.T) (nL c.O) (tbD c.t) c.s, .int (r : Nat)] = .ok .none := e2
        show ∃ d, O.bind (noEx (f_column _)) _ = _ ∧ _
        rw [e2]
        show ∃ d, noEx (g_none _) = _ ∧ _
        rw [none_ok (ts := ts) (gs := gs) (rs := rs) (bs := bs) h hn (by omega) hr']
        exact ⟨_, rfl, .inr ⟨c, r, h, hr', hneg, hno, rfl⟩⟩
      · have e2 : f_column [D.cor (nL c.T) (nL c.O) (tbD c.t) c.s, .int (r : Nat)] = .ok (.int (q : Nat)) := e2
        show ∃ d, O.bind (noEx (f_column _)) _ = _ ∧ _
        rw [e2]
        have P : Sx.Picks c n k r q := ⟨hr', hq, hneg, hp, hmin, fun j hj hl => (hbest j hj hl).1, fun j hj hl => (hbest j hj hl).2⟩
        have s0 : 0 < c.s := h.good.ok.s
        have e3 := turned_ok (k := 40) (m := k + 1) (n := n + 1) (t := c.t) (s := c.s) (r := r) (c := q) W.t (by omega) (by omega) (by omega) (by omega) s1 (by omega) (fun l hl x hx => by
          obtain ⟨i, hi, e⟩ := List.getElem_of_mem hl
          obtain ⟨j, hj, e'⟩ := List.getElem_of_mem hx
          have li : i < k + 1 := by rw [← W.t.1]; exact hi
          have lj : j < n + 1 := by rw [← W.t.2 l hl]; exact hj
          have ec : cel c.t i j = x := by
            unfold cel
            rw [getD_eq hi, e, getD_eq hj, e']
          rw [← ec]
          by_cases z : j = n
          · rw [z]; exact s3 i (by omega)
          · exact s2 i j (by omega) (by omega)) (by decide) (by decide) (by omega)
        show ∃ d, O.bind (noEx (f_turned _)) _ = _ ∧ _
        rw [e3]
        show ∃ d, (if (0 : Int) ≤ ((r : Nat) : Int) ∧ ((r : Nat) : Int) < (nL c.O).length ∧ (0 : Int) ≤ ((q : Nat) : Int) ∧ ((q : Nat) : Int) < (nL c.T).length then looseIt _ _ f ((nL c.T).set ((q : Nat) : Int).toNat ((nL c.O).getD ((r : Nat) : Int).toNat 0)) ((nL c.O).set ((r : Nat) : Int).toNat ((nL c.T).getD ((q : Nat) : Int).toNat 0)) (tbD (turnT c.t c.s r q)) (turnS c.t c.s r q) else .bad) = _ ∧ _
        rw [if_pos (by rw [nL_len, nL_len, W.T, W.O]; omega), Int.toNat_natCast, Int.toNat_natCast, nL_getD, nL_getD, nL_set, nL_set]
        exact loose_walk hn hk F hg hr hb hlo hM f (m + 1) (c.next r q) (w.next hn P) (by omega)
end
end K11

set_option Elab.async false
set_option linter.all false
set_option maxRecDepth 100000
/-! What loose tells of a box. -/
namespace K11
open PySem PySem.Spec L2 Fn
open _root_.Tab (Tb cel Rect turnT turnS turn_cel)
theorem rowF_good {r : PyData} {n : Nat} (hr : IsRow n r) : (rowF r).1.length = n ∧ (∀ k ∈ (rowF r).1, bd (-50) 50 k) ∧ bd (-2000) 2000 (rowF r).2 := by
  obtain ⟨ks, w, b, rfl, h1, h2, hw, h4⟩ := hr
  rw [rowF_ks]
  split
  · exact ⟨h1, h2, h4⟩
  · refine ⟨by rw [List.length_map]; exact h1, fun k hk => ?_, ?_⟩
    · obtain ⟨j, hj, rfl⟩ := List.mem_map.mp hk
      obtain ⟨a, c⟩ := h2 j hj
      constructor <;> omega
    · obtain ⟨a, c⟩ := h4
      constructor
      · show (-2000 : Int) ≤ -b
        omega
      · show (-b : Int) ≤ 2000
        omega
theorem onlyL_good (u : Nat) {z : Int} (n : Nat) (hz : bd (-1) 1 z) : (onlyL u z n).length = n ∧ ∀ k ∈ onlyL u z n, bd (-50) 50 k := by
  unfold onlyL
  refine ⟨by rw [List.length_map, List.length_range], fun k hk => ?_⟩
  obtain ⟨p, _, rfl⟩ := List.mem_map.mp hk
  obtain ⟨a, c⟩ := hz
  split
  · constructor <;> omega
  · constructor <;> omega
section
variable {ts gs : List Int} {rs : List PyData} {bs : Box}
theorem factsL_len (rs : List PyData) (bs : Box) : (factsL rs bs).length = rs.length + 2 * bs.length := by
  unfold factsL
  rw [List.length_append, List.length_map, spansF_len]
theorem box_bd (h : InBox ts bs) (ht : ∀ t ∈ ts, bd 0 20 t) : ∀ b ∈ bs, bd 0 20 b.1 ∧ bd 0 20 b.2 := fun b hb => by
  obtain ⟨k, hk, e⟩ := List.getElem_of_mem hb
  have hkt : k < ts.length := by have := h.1; omega
  obtain ⟨q1, q2, q3⟩ := h.2 k bs[k] ts[k] (List.getElem?_eq_getElem hk) (List.getElem?_eq_getElem hkt)
  obtain ⟨_, q4⟩ := ht _ (List.getElem_mem hkt)
  rw [e] at q1 q2 q3
  exact ⟨⟨q1, by omega⟩, ⟨by omega, by omega⟩⟩
theorem factsL_good (h : InBox ts bs) (ht : ∀ t ∈ ts, bd 0 20 t) (h3 : ts.length ≤ 3) (hr : rs.length ≤ 6) (hrs : ∀ r ∈ rs, IsRow ts.length r) : FsOk (factsL rs bs) ts.length := by
  have key : ∀ f ∈ factsL rs bs, f.1.length = ts.length ∧ (∀ k ∈ f.1, bd (-50) 50 k) ∧ bd (-2000) 2000 f.2 := fun f hf => by
    unfold factsL at hf
    rcases List.mem_append.mp hf with z | z
    · obtain ⟨r, hr, rfl⟩ := List.mem_map.mp z
      exact rowF_good (hrs r hr)
    · unfold spansF at z
      obtain ⟨k, hk, z⟩ := List.mem_flatMap.mp z
      have hkl := List.mem_range.mp hk
      obtain ⟨b1, b2⟩ := box_bd h ht _ (Sx.getD_mem (x := (0, 0)) hkl)
      generalize bs.getD k (0, 0) = b at z b1 b2
      obtain ⟨a1, a2⟩ := b1
      obtain ⟨a3, a4⟩ := b2
      unfold spanF at z
      simp only [List.mem_cons, List.not_mem_nil, or_false] at z
      rcases z with rfl | rfl
      · obtain ⟨o1, o2⟩ := onlyL_good k (z := 1) bs.length ⟨by decide, by decide⟩
        refine ⟨by rw [o1]; exact h.1, o2, ?_⟩
        constructor
        · show (-2000 : Int) ≤ b.2
          omega
        · show b.2 ≤ 2000
          omega
      · obtain ⟨o1, o2⟩ := onlyL_good k (z := -1) bs.length ⟨by decide, by decide⟩
        refine ⟨by rw [o1]; exact h.1, o2, ?_⟩
        constructor
        · show (-2000 : Int) ≤ -b.1
          omega
        · show -b.1 ≤ 2000
          omega
  refine ⟨fun p hp => (key p hp).1, fun p hp => (key p hp).2.1, fun p hp => (key p hp).2.2, ?_⟩
  rw [factsL_len, h.1]
  omega
def loB (bs : Box) (u : Nat) : Int := (bs.getD u (0, 0)).1
def hiB (bs : Box) (u : Nat) : Int := (bs.getD u (0, 0)).2
theorem spans_at (bs : Box) : ∀ i u, u < i → i ≤ bs.length → (spansF bs i).getD (2 * u) ([], 0) = (onlyL u 1 bs.length, hiB bs u) ∧ (spansF bs i).getD (2 * u + 1) ([], 0) = (onlyL u (-1) bs.length, - loB bs u)
  | 0, u, h, _ => absurd h (by omega)
  | i + 1, u, h, hi => by
    have hb : bs[i]? = some (bs.getD i (0, 0)) := by rw [getD_eq (by omega : i < bs.length), List.getElem?_eq_getElem]
    rw [spansF_succ hb]
    have l := spansF_len bs i
    by_cases z : u < i
    · obtain ⟨a, b⟩ := spans_at bs i u z (by omega)
      rw [Sx.getD_appL (by omega), Sx.getD_appL (by omega)]
      exact ⟨a, b⟩
    · have : u = i := by omega
      subst this
      constructor
      · rw [List.getD_eq_getElem?_getD, List.getElem?_append_right (by omega), l]
        simp [spanF, hiB]
      · rw [List.getD_eq_getElem?_getD, List.getElem?_append_right (by omega), l]
        have : 2 * u + 1 - 2 * u = 1 := by omega
        rw [this]
        simp [spanF, loB]
theorem box_facts (h : InBox ts bs) (ht : ∀ t ∈ ts, bd 0 20 t) (h3 : ts.length ≤ 3) (hr : rs.length ≤ 6) (hrs : ∀ r ∈ rs, IsRow ts.length r) : Sx.Box (factsL rs bs) ts.length rs.length (loB bs) (hiB bs) := by
  have hl := h.1
  have G := factsL_good h ht h3 hr hrs
  have at_ : ∀ i, (factsL rs bs).getD (rs.length + i) ([], 0) = (spansF bs bs.length).getD i ([], 0) := fun i => by
    unfold factsL
    rw [List.getD_eq_getElem?_getD, List.getElem?_append_right (by rw [List.length_map]; omega), List.length_map, List.getD_eq_getElem?_getD]
    congr 2
    omega
  refine ⟨by rw [factsL_len, hl], G.row, fun u hu => ?_, fun u hu => ?_⟩
  · rw [at_ (2 * u), (spans_at bs bs.length u (by omega) (Nat.le_refl _)).1, hl]
    rfl
  · rw [Nat.add_assoc, at_ (2 * u + 1), (spans_at bs bs.length u (by omega) (Nat.le_refl _)).2, hl]
    rfl
/-- what a problem's parts are -/
structure ProbOk (ts gs : List Int) (rs : List PyData) : Prop where
  n1 : 1 ≤ ts.length
  n3 : ts.length ≤ 3
  t : ∀ t ∈ ts, bd 0 20 t
  g : gs.length = ts.length
  gb : ∀ g ∈ gs, bd (-50) 50 g
  r6 : rs.length ≤ 6
  r : ∀ r ∈ rs, IsRow ts.length r
theorem looseO_ok (p : ProbOk ts gs rs) (h : InBox ts bs) : ∃ d, looseO (pD ts gs rs) (boxD bs) = .ok d ∧ LSpec ts.length (Sx.kk (factsL rs bs) ts.length) rs.length (factsL rs bs) gs bs d := by
  have B := box_facts h p.t p.n3 p.r6 p.r
  have F := factsL_good h p.t p.n3 p.r6 p.r
  have hT : ∀ f ∈ Sx.startT gs rs.length ts.length, f < (factsL rs bs).length := fun f hf => by
    have := Sx.startT_lt hf
    rw [B.len]; exact this
  have I := init_good (ts := ts) F p.g p.gb p.n3 p.r6 hT
  have f1 := facts_ok (gs := gs) h p.n3 p.r6 p.r
  have hex : ∃ q : InitW, q.Ok (pD ts gs rs) (.list ((factsL rs bs).map factD)) := ⟨⟨_, _, _, _, _, _, _⟩, I⟩
  obtain ⟨u1, u2, u3, u4⟩ := init_uniq (Classical.choose_spec hex) I
  unfold looseO
  rw [f1, O.bind_ok, show listO (.list ((factsL rs bs).map factD)) = O.ok (.list ((factsL rs bs).map factD)) from rfl, O.bind_ok, dif_pos hex, u1, u2, u3, u4]
  have si := Sx.start_inv B p.g p.n3
  have kn := Sx.kk_n B
  have W := loose_walk (ts := ts) (gs := gs) (rs := rs) (bs := bs) (n := ts.length) (k := Sx.kk (factsL rs bs) ts.length) (fs := factsL rs bs) (gain := gs) p.n3 kn F p.gb p.r6 h.1 (fun b hb => (box_bd h p.t b hb).1) (by rw [kn, B.len]; have := p.n3; have := p.r6; omega) 5000 0 (Sx.LC.start (factsL rs bs) gs rs.length ts.length) (Sx.Walk.start si) (by omega)
  exact W
end
end K11

set_option Elab.async false
set_option linter.all false
set_option maxRecDepth 100000
/-! Points. -/
namespace K11
open PySem PySem.Spec L2 Fn
section
variable {ts gs : List Int} {rs : List PyData}
theorem lsum_ok {s : PyData} {ks ps : List Int} (hs : s = .list (ks.map PyData.int) ∨ s = .tuple (ks.map PyData.int)) (hl : ks.length = ps.length) (hn : ps.length ≤ 1000) (hk : ∀ k ∈ ks, bd (-50) 50 k) : f__law_sum [s, .list (ps.map PyData.int)] = .ok (.int (dot ks ps)) := by
  have e : rho0 4 [s, PyData.list (ps.map PyData.int)] = [some s, some (.list (ps.map PyData.int)), none, none] := rfl
  unfold f__law_sum fnG
  rw [e]
  unfold g__law_sum
  have hloop : ∃ x : Option PyData, gFor (aName 3) (gRng1 (gConsA (gB bLen (gConsA (gVar 1) gNilA)) gNilA)) (gSet 2 (gAdd (gVar 2) (gMul (gIx (gVar 0) (gVar 3)) (gIx (gVar 1) (gVar 3)))))
      [some s, some (.list (ps.map PyData.int)), some (.int 0), none] = .nx [some s, some (.list (ps.map PyData.int)), some (.int (dot ks ps)), x] := by
    obtain ⟨ρ', h3, x, rfl⟩ := for_inv (f := aName 3) (body := (gSet 2 (gAdd (gVar 2) (gMul (gIx (gVar 0) (gVar 3)) (gIx (gVar 1) (gVar 3)))))) (ds := rangeD 0 ps.length)
      (ρ := [some s, some (.list (ps.map PyData.int)), some (.int 0), none])
      (fun i ρ => ∃ x : Option PyData, ρ = [some s, some (.list (ps.map PyData.int)), some (.int ((prods ks ps).take i).sum), x]) ⟨none, rfl⟩ (fun i d ρ hd hi => by
        obtain ⟨x, rfl⟩ := hi
        obtain ⟨rfl, hi⟩ := rangeD_at hd
        have i1 : dIx (.list (ps.map PyData.int)) (.int i) = .ok (.int ps[i]) := dIx_l _ _ (by rw [K11.atI_nat (x := PyData.int ps[i]) (by rw [List.getElem?_map, List.getElem?_eq_getElem hi]; rfl)])
        have hik : i < ks.length := by omega
        have a2 : atI (ks.map PyData.int) (i : Int) = some (.int ks[i]) := K11.atI_nat (x := PyData.int ks[i]) (by rw [List.getElem?_map, List.getElem?_eq_getElem hik]; rfl)
        have i2 : dIx s (.int i) = .ok (.int ks[i]) := by
          rcases hs with rfl | rfl
          · exact dIx_l _ _ a2
          · exact dIx_t _ _ a2
        have hp : (prods ks ps)[i]? = some (ks[i] * ps[i]) := by
          unfold prods
          rw [List.getElem?_zipWith, List.getElem?_eq_getElem hik, List.getElem?_eq_getElem hi]
        have hsum : ((prods ks ps).take (i + 1)).sum = ((prods ks ps).take i).sum + ks[i] * ps[i] := by
          rw [List.take_add_one, hp]
          simp
        refine ⟨_, _, rfl, ?_, some (.int i), rfl⟩
        rw [hsum]
        simp -implicitDefEqProofs [i1, i2, mul50 (hk _ (List.getElem_mem hik))])
    refine ⟨x, ?_⟩
    rw [gFor_ap]
    have ht : ((prods ks ps).take (rangeD 0 ps.length).length).sum = dot ks ps := by
      rw [rangeD_length, List.take_of_length_le (by unfold prods; rw [List.length_zipWith]; omega)]
      rfl
    rw [ht] at h3
    simp -implicitDefEqProofs [rng1_nat (show ps.length ≤ 1000 by omega)]
    exact h3
  obtain ⟨x, hl⟩ := hloop
  simp -implicitDefEqProofs [hl]
theorem fld_tops : gFld "tops" 0 (gC (pD ts gs rs)) [] = .ok (.list (ts.map PyData.int)) := rfl
theorem is_point_l {ds : List PyData} (hn : ds.length ≤ 1000) (h : ∀ d ∈ ds, plain0 d = true) : f_is_point [pD ts gs rs, .list ds] = .ok (.bool (decide (ds.length = ts.length) && ds.all isInt)) := by
  have e : rho0 3 [pD ts gs rs, PyData.list ds] = [some (pD ts gs rs), some (.list ds), none] := rfl
  unfold f_is_point fnG
  rw [e]
  unfold g_is_point
  have p0 : gFld "tops" 0 (gVar 0) [some (pD ts gs rs), some (.list ds), none] = .ok (.list (ts.map PyData.int)) := rfl
  have hc := comp_map (vs := [2]) (i := 2) (E := (gFn 1 f_is_whole (gConsA (gVar 2) gNilA))) (gi := (gItA (gVar 1))) (ρ := [some (pD ts gs rs), some (.list ds), none]) (ds := ds) (fun d => .bool (isInt d))
    (by simp -implicitDefEqProofs) (lim_ge hn) (fun d hd => by simp -implicitDefEqProofs [is_whole_ok (h d hd)])
  by_cases h1 : ds.length = ts.length
  · simp -implicitDefEqProofs [hc, bAll_map, h1, p0, -gFld_ap]
  · have h1' : ¬ (ds.length : Int) = ts.length := by omega
    simp -implicitDefEqProofs [h1, h1', p0, -gFld_ap]
theorem check_ok {d : PyData} {k : Bool} (h : f_is_point [pD ts gs rs, d] = .ok (.bool k)) : f_check_point [pD ts gs rs, d] = if k = true then .ok .none else .ex 2 := by
  have e : rho0 2 [pD ts gs rs, d] = [some (pD ts gs rs), some d] := rfl
  unfold f_check_point fnG
  rw [e]
  unfold g_check_point
  cases k <;> simp -implicitDefEqProofs [h, outR]
theorem good_point {ps : List Int} (h : ps.length = ts.length) (h3 : ts.length ≤ 3) : f_check_point [pD ts gs rs, .list (ps.map PyData.int)] = .ok .none := by
  have hp := is_point_l (ts := ts) (gs := gs) (rs := rs) (ds := ps.map PyData.int) (by rw [List.length_map]; omega) (plain_ints ps)
  have ha : (ps.map PyData.int).all isInt = true := by
    rw [List.all_map, List.all_eq_true]
    exact fun _ _ => rfl
  rw [List.length_map, decide_eq_true h, ha] at hp
  exact check_ok hp
theorem gained_ok {ps : List Int} (h : ps.length = ts.length) (h3 : ts.length ≤ 3) (hg : gs.length = ts.length) (hgs : ∀ g ∈ gs, bd (-50) 50 g) : f_gained [pD ts gs rs, .list (ps.map PyData.int)] = .ok (.int (dot gs ps)) := by
  have e : rho0 2 [pD ts gs rs, PyData.list (ps.map PyData.int)] = [some (pD ts gs rs), some (.list (ps.map PyData.int))] := rfl
  unfold f_gained fnG
  rw [e]
  unfold g_gained
  have p0 : gFld "gain" 0 (gVar 0) [some (pD ts gs rs), some (.list (ps.map PyData.int))] = .ok (.list (gs.map PyData.int)) := rfl
  simp -implicitDefEqProofs [good_point h h3, p0, psum_ok (.inl rfl) (show gs.length ≤ 1000 by omega) hgs, -gFld_ap]
/-- what a row says of a point -/
def rowB (ps : List Int) : PyData → Bool
  | .tuple [.tuple ns, .str w, .int b] => match intsD ns with
    | some ks => if w = "most" then decide (dot ks ps ≤ b) else decide (b ≤ dot ks ps)
    | none => false
  | _ => false
theorem rowB_ks {ks ps : List Int} {w : Str} {b : Int} : rowB ps (.tuple [.tuple (ks.map PyData.int), .str w, .int b]) = if w = "most" then decide (dot ks ps ≤ b) else decide (b ≤ dot ks ps) := by
  show (match intsD (ks.map PyData.int) with
    | some ks => if w = "most" then decide (dot ks ps ≤ b) else decide (b ≤ dot ks ps)
    | none => false) = _
  rw [Fn.intsD_map]
def inAll (ps ts : List Int) : List Bool := List.zipWith (fun p t => decide (0 ≤ p) && decide (p ≤ t)) ps ts
def meetB (ts : List Int) (rs : List PyData) (ps : List Int) : Bool := (inAll ps ts).all id && rs.all (rowB ps)
def inP : PyData → PyData
  | .tuple [.int p, .int t] => .bool (decide (0 ≤ p) && decide (p ≤ t))
  | _ => .none
theorem zip_in : ∀ ps ts : List Int, (zipD (ps.map PyData.int) (ts.map PyData.int)).map inP = (inAll ps ts).map PyData.bool
  | [], _ => rfl
  | _ :: _, [] => rfl
  | p :: ps, t :: ts => by
    show inP (.tuple [.int p, .int t]) :: (zipD (ps.map PyData.int) (ts.map PyData.int)).map inP = _
    rw [zip_in ps ts]
    rfl
theorem lmeets_ok {ps : List Int} (h : ps.length = ts.length) (h3 : ts.length ≤ 3) (hr : rs.length ≤ 6) (hrs : ∀ r ∈ rs, IsRow ts.length r) : f__law_meets [.list (ts.map PyData.int), .list rs, .list (ps.map PyData.int)] = .ok (.bool (meetB ts rs ps)) := by
  have e : rho0 6 [PyData.list (ts.map PyData.int), .list rs, .list (ps.map PyData.int)] = [some (.list (ts.map PyData.int)), some (.list rs), some (.list (ps.map PyData.int)), none, none, none] := rfl
  unfold f__law_meets fnG
  rw [e]
  unfold g__law_meets
  have l1 : ∃ x : Option PyData, gFor (aName 3) (gRng1 (gConsA (gB bLen (gConsA (gVar 0) gNilA)) gNilA)) (gIfS (gOrT (gBl (gLt (gIx (gVar 2) (gVar 3)) (gC (.int 0)))) (gBl (gGt (gIx (gVar 2) (gVar 3)) (gIx (gVar 0) (gVar 3))))) (gRet (gC (.bool false))) gNext)
      [some (.list (ts.map PyData.int)), some (.list rs), some (.list (ps.map PyData.int)), none, none, none] = if (inAll ps ts).all id = true then .nx [some (.list (ts.map PyData.int)), some (.list rs), some (.list (ps.map PyData.int)), x, none, none] else .rt (.bool false) := by
    have key := for_leave (f := aName 3) (body := (gIfS (gOrT (gBl (gLt (gIx (gVar 2) (gVar 3)) (gC (.int 0)))) (gBl (gGt (gIx (gVar 2) (gVar 3)) (gIx (gVar 0) (gVar 3))))) (gRet (gC (.bool false))) gNext)) (ds := rangeD 0 ts.length)
      (ρ := [some (.list (ts.map PyData.int)), some (.list rs), some (.list (ps.map PyData.int)), none, none, none])
      (fun i ρ => (∃ x : Option PyData, ρ = [some (.list (ts.map PyData.int)), some (.list rs), some (.list (ps.map PyData.int)), x, none, none]) ∧ ((inAll ps ts).take i).all id = true)
      (fun R => ∃ x : Option PyData, R = if (inAll ps ts).all id = true then .nx [some (.list (ts.map PyData.int)), some (.list rs), some (.list (ps.map PyData.int)), x, none, none] else .rt (.bool false))
      ⟨⟨none, rfl⟩, rfl⟩ (fun i d ρ hd hi => by
        obtain ⟨⟨x, rfl⟩, hall⟩ := hi
        obtain ⟨rfl, hi⟩ := rangeD_at hd
        have hip : i < ps.length := by omega
        have i1 : dIx (.list (ps.map PyData.int)) (.int i) = .ok (.int ps[i]) := dIx_l _ _ (by rw [K11.atI_nat (x := PyData.int ps[i]) (by rw [List.getElem?_map, List.getElem?_eq_getElem hip]; rfl)])
        have i2 : dIx (.list (ts.map PyData.int)) (.int i) = .ok (.int ts[i]) := dIx_l _ _ (by rw [K11.atI_nat (x := PyData.int ts[i]) (by rw [List.getElem?_map, List.getElem?_eq_getElem hi]; rfl)])
        have hu : (inAll ps ts)[i]? = some (decide (0 ≤ ps[i]) && decide (ps[i] ≤ ts[i])) := by
          unfold inAll
          rw [List.getElem?_zipWith, List.getElem?_eq_getElem hip, List.getElem?_eq_getElem hi]
        refine ⟨_, rfl, ?_⟩
        by_cases g1 : 0 ≤ ps[i]
        · by_cases g2 : ps[i] ≤ ts[i]
          · refine .inl ⟨_, .inl ?_, ⟨some (.int i), rfl⟩, ?_⟩
            · simp -implicitDefEqProofs [i1, i2, show ¬ ps[i] < 0 by omega, show ¬ ts[i] < ps[i] by omega]
            · rw [List.take_add_one, hu, List.all_append, hall, decide_eq_true g1, decide_eq_true g2]
              rfl
          · refine .inr (.inl ⟨.bool false, ?_, none, ?_⟩)
            · simp -implicitDefEqProofs [i1, i2, show ¬ ps[i] < 0 by omega, show ts[i] < ps[i] by omega]
            · rw [if_neg]
              rw [Bool.not_eq_true, List.all_eq_false]
              exact ⟨_, List.mem_of_getElem? hu, by rw [decide_eq_false g2]; simp⟩
        · refine .inr (.inl ⟨.bool false, ?_, none, ?_⟩)
          · simp -implicitDefEqProofs [i1, i2, show ps[i] < 0 by omega]
          · rw [if_neg]
            rw [Bool.not_eq_true, List.all_eq_false]
            exact ⟨_, List.mem_of_getElem? hu, by rw [decide_eq_false g1]; simp⟩) (fun ρ hi => by
        obtain ⟨⟨x, rfl⟩, hall⟩ := hi
        rw [rangeD_length, List.take_of_length_le (by unfold inAll; rw [List.length_zipWith]; omega)] at hall
        exact ⟨x, by rw [if_pos hall]⟩)
    obtain ⟨x, hx⟩ := key
    refine ⟨x, ?_⟩
    rw [← hx, gFor_ap]
    simp -implicitDefEqProofs [rng1_nat (show ts.length ≤ 1000 by omega)]
  obtain ⟨x, hx⟩ := l1
  have l2 : ∃ y z : Option PyData, gFor (aName 4) (gItA (gVar 1)) (gSeq (gSet 5 (gFn 2 f__law_sum (gConsA (gIx (gVar 4) (gC (.int 0))) (gConsA (gVar 2) gNilA))))
    (gIfS (gOrT (gAndT (gBl (gEq (gIx (gVar 4) (gC (.int 1))) (gC (.str "most")))) (gBl (gGt (gVar 5) (gIx (gVar 4) (gC (.int 2)))))) (gAndT (gBl (gEq (gIx (gVar 4) (gC (.int 1))) (gC (.str "least")))) (gBl (gLt (gVar 5) (gIx (gVar 4) (gC (.int 2))))))) (gRet (gC (.bool false))) gNext))
      [some (.list (ts.map PyData.int)), some (.list rs), some (.list (ps.map PyData.int)), x, none, none] = if rs.all (rowB ps) = true then .nx [some (.list (ts.map PyData.int)), some (.list rs), some (.list (ps.map PyData.int)), x, y, z] else .rt (.bool false) := by
    have key := for_leave (f := aName 4) (body := (gSeq (gSet 5 (gFn 2 f__law_sum (gConsA (gIx (gVar 4) (gC (.int 0))) (gConsA (gVar 2) gNilA))))
    (gIfS (gOrT (gAndT (gBl (gEq (gIx (gVar 4) (gC (.int 1))) (gC (.str "most")))) (gBl (gGt (gVar 5) (gIx (gVar 4) (gC (.int 2)))))) (gAndT (gBl (gEq (gIx (gVar 4) (gC (.int 1))) (gC (.str "least")))) (gBl (gLt (gVar 5) (gIx (gVar 4) (gC (.int 2))))))) (gRet (gC (.bool false))) gNext))) (ds := rs)
      (ρ := [some (.list (ts.map PyData.int)), some (.list rs), some (.list (ps.map PyData.int)), x, none, none])
      (fun i ρ => (∃ y z : Option PyData, ρ = [some (.list (ts.map PyData.int)), some (.list rs), some (.list (ps.map PyData.int)), x, y, z]) ∧ (rs.take i).all (rowB ps) = true)
      (fun R => ∃ y z : Option PyData, R = if rs.all (rowB ps) = true then .nx [some (.list (ts.map PyData.int)), some (.list rs), some (.list (ps.map PyData.int)), x, y, z] else .rt (.bool false))
      ⟨⟨none, none, rfl⟩, rfl⟩ (fun i d ρ hd hi => by
        obtain ⟨⟨y, z, rfl⟩, hall⟩ := hi
        have hm := List.mem_of_getElem? hd
        obtain ⟨ks, w, b, rfl, q1, q2, hw, q4⟩ := hrs d hm
        have i0 : dIx (.tuple [.tuple (ks.map PyData.int), .str w, .int b]) (.int 0) = .ok (.tuple (ks.map PyData.int)) := rfl
        have i1 : dIx (.tuple [.tuple (ks.map PyData.int), .str w, .int b]) (.int 1) = .ok (.str w) := rfl
        have i2 : dIx (.tuple [.tuple (ks.map PyData.int), .str w, .int b]) (.int 2) = .ok (.int b) := rfl
        have hs := lsum_ok (ps := ps) (.inr rfl) (show ks.length = ps.length by omega) (by omega) q2
        refine ⟨_, rfl, ?_⟩
        by_cases hk : rowB ps (.tuple [.tuple (ks.map PyData.int), .str w, .int b]) = true
        · refine .inl ⟨_, .inl ?_, ⟨some (.tuple [.tuple (ks.map PyData.int), .str w, .int b]), some (.int (dot ks ps)), rfl⟩, ?_⟩
          · rw [rowB_ks] at hk
            rcases hw with rfl | rfl
            · rw [if_pos rfl] at hk
              have hk := of_decide_eq_true hk
              simp -implicitDefEqProofs [i0, i1, i2, hs, mm, ml, show ¬ b < dot ks ps by omega]
            · rw [if_neg lne] at hk
              have hk := of_decide_eq_true hk
              simp -implicitDefEqProofs [i0, i1, i2, hs, lm, ll, show ¬ dot ks ps < b by omega]
          · rw [List.take_add_one, hd, List.all_append, hall]
            simp [hk]
        · refine .inr (.inl ⟨.bool false, ?_, none, none, ?_⟩)
          · rw [rowB_ks] at hk
            rcases hw with rfl | rfl
            · rw [if_pos rfl] at hk
              have hk := of_decide_eq_false (Bool.not_eq_true _ ▸ hk)
              simp -implicitDefEqProofs [i0, i1, i2, hs, mm, ml, show b < dot ks ps by omega]
            · rw [if_neg lne] at hk
              have hk := of_decide_eq_false (Bool.not_eq_true _ ▸ hk)
              simp -implicitDefEqProofs [i0, i1, i2, hs, lm, ll, show dot ks ps < b by omega]
          · rw [if_neg]
            rw [Bool.not_eq_true, List.all_eq_false]
            exact ⟨_, hm, hk⟩) (fun ρ hi => by
        obtain ⟨⟨y, z, rfl⟩, hall⟩ := hi
        rw [List.take_length] at hall
        exact ⟨y, z, by rw [if_pos hall]⟩)
    obtain ⟨y, z, hx⟩ := key
    refine ⟨y, z, ?_⟩
    rw [← hx, gFor_ap]
    simp -implicitDefEqProofs
  obtain ⟨y, z, hy⟩ := l2
  unfold meetB
  rw [gSeq_ap, hx]
  generalize (inAll ps ts).all id = k1
  cases k1 with
  | false => simp -implicitDefEqProofs [outR]
  | true =>
    rw [if_pos rfl, seq_nx, gSeq_ap, hy]
    generalize rs.all (rowB ps) = k2
    cases k2 <;> simp -implicitDefEqProofs [outR]
end
end K11

set_option Elab.async false
set_option linter.all false
set_option maxRecDepth 100000
/-! What trees.py reckons besides. -/
namespace K11
open PySem PySem.Spec L2 Fn
theorem forL_find {α J : Type} {f : PyData → Rho → Fn.O Rho} {body : Rho → R} (φ : α → PyData) (p : α → Bool) (emb : J → Rho) (ret : α → PyData) : ∀ (L : List α) (j : J), (∀ a j, a ∈ L → ∃ ρ1 j', f (φ a) (emb j) = .ok ρ1 ∧ body ρ1 = if p a = true then .rt (ret a) else .nx (emb j')) →
    ∃ j', forL f body (L.map φ) (emb j) = match L.find? p with
      | some a => .rt (ret a)
      | none => .nx (emb j')
  | [], j, _ => ⟨j, rfl⟩
  | a :: L, j, h => by
    obtain ⟨ρ1, j', h1, h2⟩ := h a j List.mem_cons_self
    rw [List.map_cons, List.find?_cons]
    unfold forL
    rw [h1, O.go_ok, h2]
    cases e : p a with
    | true => exact ⟨j, by rw [if_pos rfl]⟩
    | false =>
      rw [if_neg Bool.false_ne_true]
      exact forL_find φ p emb ret L j' fun b j hb => h b j (List.mem_cons_of_mem _ hb)
section
variable {bs : Box}
theorem broken_ok {nums : List Int} {s : Int} (hn : nums.length ≤ 100) (hs : 0 < s) (h : Sm 40 s) (hd : ∀ u, u < nums.length → Sm 40 (nums.getD u 0 / s)) :
    (f_broken_unknown [lnD nums, .int s] = .ok .none ∧ ∀ u, u < nums.length → nums.getD u 0 / s * s = nums.getD u 0) ∨ ∃ u, u < nums.length ∧ f_broken_unknown [lnD nums, .int s] = .ok (.int (u : Nat)) ∧ nums.getD u 0 / s * s ≠ nums.getD u 0 := by
  have e0 : rho0 4 [lnD nums, .int s] = [some (lnD nums), some (.int s), none, none] := rfl
  have hl := h.log (by decide) (by decide)
  obtain ⟨j', w⟩ := forL_find (f := aTup (aCons (aName 2) (aCons (aName 3) aNil))) (body := (gIfS (gBl (gNe (gMul (gFdiv (gVar 3) (gVar 1)) (gVar 1)) (gVar 3))) (gRet (gVar 2)) gNext)) (fun (u : Nat) => PyData.tuple [.int (u : Nat), .int (nums.getD u 0)]) (fun u => decide (nums.getD u 0 / s * s ≠ nums.getD u 0))
    (fun (j : Option PyData × Option PyData) => [some (lnD nums), some (.int s), j.1, j.2]) (fun u => .int (u : Nat)) (List.range nums.length) (none, none) (fun u j hu => by
      have hu := List.mem_range.mp hu
      have hm : mulOk (nums.getD u 0 / s) s = true := mul64 (hd u hu)
      refine ⟨_, (some (.int (u : Nat)), some (.int (nums.getD u 0))), rfl, ?_⟩
      by_cases z : nums.getD u 0 / s * s = nums.getD u 0
      · simp -implicitDefEqProofs [-List.getD_eq_getElem?_getD, hs, hl, hm, z]
      · simp -implicitDefEqProofs [-List.getD_eq_getElem?_getD, hs, hl, hm, z])
  have go : f_broken_unknown [lnD nums, .int s] = match (List.range nums.length).find? (fun u => decide (nums.getD u 0 / s * s ≠ nums.getD u 0)) with
      | some u => .ok (.int (u : Nat))
      | none => .ok .none := by
    unfold f_broken_unknown fnG
    rw [e0]
    unfold g_broken_unknown
    have q : gEnum (gConsA (gVar 0) gNilA) [some (lnD nums), some (.int s), none, none] = .ok ((List.range nums.length).map fun (u : Nat) => PyData.tuple [.int (u : Nat), .int (nums.getD u 0)]) := by
      show O.ok (enumD (nums.map PyData.int)) = _
      rw [enum_ints]
    show outR ((R.seq ((gEnum (gConsA (gVar 0) gNilA) [some (lnD nums), some (.int s), none, none]).go fun ds => forL (aTup (aCons (aName 2) (aCons (aName 3) aNil))) (gIfS (gBl (gNe (gMul (gFdiv (gVar 3) (gVar 1)) (gVar 1)) (gVar 3))) (gRet (gVar 2)) gNext) ds [some (lnD nums), some (.int s), none, none]) _)) = _
    rw [q, O.go_ok]
    have w : forL (aTup (aCons (aName 2) (aCons (aName 3) aNil))) (gIfS (gBl (gNe (gMul (gFdiv (gVar 3) (gVar 1)) (gVar 1)) (gVar 3))) (gRet (gVar 2)) gNext) ((List.range nums.length).map fun (u : Nat) => PyData.tuple [.int (u : Nat), .int (nums.getD u 0)]) [some (lnD nums), some (.int s), none, none] = _ := w
    rw [w]
    cases (List.range nums.length).find? (fun u => decide (nums.getD u 0 / s * s ≠ nums.getD u 0)) <;> rfl
  cases e : (List.range nums.length).find? (fun u => decide (nums.getD u 0 / s * s ≠ nums.getD u 0)) with
  | none =>
    left
    rw [e] at go
    refine ⟨go, fun u hu => ?_⟩
    have := List.find?_eq_none.mp e u (List.mem_range.mpr hu)
    simpa using this
  | some u =>
    right
    rw [e] at go
    have h1 := List.mem_range.mp (List.mem_of_find?_eq_some e)
    have h2 := of_decide_eq_true (List.find?_some (p := fun u => decide (nums.getD u 0 / s * s ≠ nums.getD u 0)) e)
    exact ⟨u, h1, go, h2⟩
theorem span_ok (hb : bs.length ≤ 100) {u : Nat} (hu : u < bs.length) (b : Int × Int) : f_with_span [boxD bs, .int (u : Nat), spanD b] = .ok (boxD (bs.set u b)) := by
  have e0 : rho0 5 [boxD bs, .int (u : Nat), spanD b] = [some (boxD bs), some (.int (u : Nat)), some (spanD b), none, none] := rfl
  unfold f_with_span fnG
  rw [e0]
  unfold g_with_span
  have hc := comp_of (vs := [3, 4]) (f := aTup (aCons (aName 3) (aCons (aName 4) aNil))) (t := gYes) (e := (gIf (gBl (gEq (gVar 3) (gVar 1))) (gVar 2) (gVar 4))) (gi := gEnum (gConsA (gVar 0) gNilA)) (ρ := [some (boxD bs), some (.int (u : Nat)), some (spanD b), none, none]) (List.range bs.length) (fun p => .tuple [.int (p : Nat), spanD (bs.getD p (0, 0))]) (fun p => spanD (if p = u then b else bs.getD p (0, 0))) (by
      show O.ok (enumD (bs.map spanD)) = _
      rw [enum_box]) (by rw [List.length_range]; exact lim_ge (by omega)) fun p hp => ⟨_, rfl, rfl, by
      by_cases z : p = u
      · subst z
        simp -implicitDefEqProofs
      · have z' : ¬ (p : Int) = (u : Int) := by omega
        simp -implicitDefEqProofs [-List.getD_eq_getElem?_getD, z, z']⟩
  rw [gRet_ap, hc]
  show O.ok (PyData.list _) = O.ok (PyData.list _)
  congr 2
  apply List.ext_getElem?
  intro i
  rw [List.getElem?_map, List.getElem?_map]
  by_cases hi : i < bs.length
  · rw [List.getElem?_range hi]
    by_cases z : i = u
    · subst z
      rw [List.getElem?_set_self hi]
      show some (spanD (if i = i then b else _)) = _
      rw [if_pos rfl]; rfl
    · rw [List.getElem?_set_ne (fun q => z q.symm), List.getElem?_eq_getElem hi]
      show some (spanD (if i = u then b else bs.getD i (0, 0))) = _
      rw [if_neg z, getD_eq hi]; rfl
  · rw [List.getElem?_eq_none (by rw [List.length_range]; omega), List.getElem?_eq_none (by rw [List.length_set]; omega)]; rfl
theorem ix_box {u : Nat} (hu : u < bs.length) : dIx (boxD bs) (.int (u : Nat)) = .ok (spanD (bs.getD u (0, 0))) := dIx_l _ _ (by
  rw [atI_map, atI_nat (x := bs.getD u (0, 0)) (by rw [getD_eq hu, List.getElem?_eq_getElem hu])]
  rfl)
theorem below_ok (hb : bs.length ≤ 100) {u : Nat} (hu : u < bs.length) (a : Int) : f_box_below [boxD bs, .int (u : Nat), .int a] = .ok (boxD (bs.set u (loB bs u, a))) := by
  have e0 : rho0 3 [boxD bs, .int (u : Nat), .int a] = [some (boxD bs), some (.int (u : Nat)), some (.int a)] := rfl
  have i1 := ix_box hu
  have i2 : dIx (spanD (bs.getD u (0, 0))) (.int 0) = .ok (.int (loB bs u)) := rfl
  have s1 := span_ok hb hu (loB bs u, a)
  unfold spanD at s1
  unfold f_box_below fnG
  rw [e0]
  unfold g_box_below
  simp -implicitDefEqProofs [-List.getD_eq_getElem?_getD, i1, i2, s1]
theorem above_ok (hb : bs.length ≤ 100) {u : Nat} (hu : u < bs.length) (a : Int) : f_box_above [boxD bs, .int (u : Nat), .int a] = .ok (boxD (bs.set u (a + 1, hiB bs u))) := by
  have e0 : rho0 3 [boxD bs, .int (u : Nat), .int a] = [some (boxD bs), some (.int (u : Nat)), some (.int a)] := rfl
  have i1 := ix_box hu
  have i2 : dIx (spanD (bs.getD u (0, 0))) (.int 1) = .ok (.int (hiB bs u)) := rfl
  have s1 := span_ok hb hu (a + 1, hiB bs u)
  unfold spanD at s1
  unfold f_box_above fnG
  rw [e0]
  unfold g_box_above
  simp -implicitDefEqProofs [-List.getD_eq_getElem?_getD, i1, i2, s1]
end
end K11

set_option Elab.async false
set_option linter.all false
set_option maxRecDepth 100000
/-! Trees: the steps of grown. -/
namespace K11
open PySem PySem.Spec L2 Fn
theorem nn_ : dEq (.str "none") (.str "none") = .ok (.bool true) := dEq_self (nice_str (by decide +kernel)) (by decide)
theorem mn_ : dEq (.str "most") (.str "none") = .ok (.bool false) := by
  unfold dEq
  rw [show scalD (.str "most") (.str "none") = true from rfl, Bool.true_or, if_pos rfl]
  congr 2
def bestD : Option (List Int) → PyData
  | none => .none
  | some x => lnD x
def boundD (W : PyData) (s : Int) : PyData := .tuple [.str "bound", W, .int s]
def cutD (u : Nat) (a : Int) (S T : PyData) : PyData := .tuple [.str "cut", .int (u : Nat), .int a, S, T]
noncomputable def grT (rec : List PyData → Fn.O PyData) : Rho → R :=
    (gSeq (gSet 9 (gFn 2 f_broken_unknown (gConsA (gVar 7) (gConsA (gVar 8) gNilA))))
    (gSeq (gIfS (gBl (gIsN (gVar 9) (gC .none))) (gRet (gTup (gConsA (gComp [10] (aName 10) gYes (gFdiv (gVar 10) (gVar 8)) (gItA (gVar 7))) (gConsA (gTup (gConsA (gC (.str "bound")) (gConsA (gVar 5) (gConsA (gVar 6) gNilA)))) gNilA)))) gNext)
    (gSeq (gSet 11 (gFdiv (gIx (gVar 7) (gVar 9)) (gVar 8)))
    (gSeq (gAsg (aTup (aCons (aName 2) (aCons (aName 12) aNil))) (gFnC 3 rec (gConsA (gVar 0) (gConsA (gFn 3 f_box_below (gConsA (gVar 1) (gConsA (gVar 9) (gConsA (gVar 11) gNilA)))) (gConsA (gVar 2) gNilA)))))
    (gSeq (gAsg (aTup (aCons (aName 2) (aCons (aName 13) aNil))) (gFnC 3 rec (gConsA (gVar 0) (gConsA (gFn 3 f_box_above (gConsA (gVar 1) (gConsA (gVar 9) (gConsA (gVar 11) gNilA)))) (gConsA (gVar 2) gNilA)))))
    (gRet (gTup (gConsA (gVar 2) (gConsA (gTup (gConsA (gC (.str "cut")) (gConsA (gVar 9) (gConsA (gVar 11) (gConsA (gVar 12) (gConsA (gVar 13) gNilA)))))) gNilA)))))))))
noncomputable def grC : Rho → R := (gIfS (gAndT (gBl (gNotN (gVar 2) (gC .none))) (gBl (gLe (gFdiv (gFn 2 f_products_sum (gConsA (gFld "gain" 0 (gVar 0)) (gConsA (gVar 7) gNilA))) (gVar 8)) (gFn 2 f_gained (gConsA (gVar 0) (gConsA (gVar 2) gNilA)))))) (gRet (gTup (gConsA (gVar 2) (gConsA (gTup (gConsA (gC (.str "bound")) (gConsA (gVar 5) (gConsA (gVar 6) gNilA)))) gNilA)))) gNext)
def mostD (nums : List Int) (s : Int) (W : PyData) : PyData := .tuple [.str "most", .tuple [lnD nums, .int s], W, .int s]
section
variable {rec : List PyData → Fn.O PyData} {P B b W : PyData} {nums ts gs x : List Int} {rs : List PyData} {bs : Box} {s : Int}
abbrev g0 (P B b : PyData) : Rho := [some P, some B, some b, none, none, none, none, none, none, none, none, none, none, none]
abbrev g4 (P B b : PyData) (nums : List Int) (s : Int) (W : PyData) : Rho := [some P, some B, some b, some (mostD nums s W), some (.str "most"), some W, some (.int s), some (lnD nums), some (.int s), none, none, none, none, none]
theorem step_none (hl : f_looseN [P, B] = .ok (.tuple [.str "none", W])) : g_grown rec (g0 P B b) = .rt (.tuple [b, .tuple [.str "none", W]]) := by
  have i0 : dIx (.tuple [.str "none", W]) (.int 0) = .ok (.str "none") := rfl
  unfold g_grown
  simp -implicitDefEqProofs [hl, nn_, i0]
theorem step_most (hl : f_looseN [P, B] = .ok (mostD nums s W)) : g_grown rec (g0 P B b) = (grC (g4 P B b nums s W)).seq (grT rec) := by
  have i0 : dIx (mostD nums s W) (.int 0) = .ok (.str "most") := rfl
  have d0 : mostD nums s W = .tuple [.str "most", .tuple [lnD nums, .int s], W, .int s] := rfl
  unfold g_grown
  rw [gSeq_ap]
  have e1 : gSet 3 (gFnC 2 f_looseN (gConsA (gVar 0) (gConsA (gVar 1) gNilA))) (g0 P B b) = .nx [some P, some B, some b, some (mostD nums s W), none, none, none, none, none, none, none, none, none, none] := by
    simp -implicitDefEqProofs [hl]
  rw [e1, R.seq_nx, gSeq_ap]
  have e2 : gIfS (gBl (gEq (gIx (gVar 3) (gC (.int 0))) (gC (.str "none")))) (gRet (gTup (gConsA (gVar 2) (gConsA (gVar 3) gNilA)))) gNext [some P, some B, some b, some (mostD nums s W), none, none, none, none, none, none, none, none, none, none] = .nx [some P, some B, some b, some (mostD nums s W), none, none, none, none, none, none, none, none, none, none] := by
    simp -implicitDefEqProofs [i0, mn_]
  rw [e2, R.seq_nx, gSeq_ap]
  rfl
theorem fldg {b B W : PyData} : gFld "gain" 0 (gVar 0) (g4 (pD ts gs rs) B b nums s W) = .ok (.list (gs.map PyData.int)) := rfl
theorem cond_none (B W : PyData) : grC (g4 (pD ts gs rs) B (bestD none) nums s W) = .nx (g4 (pD ts gs rs) B (bestD none) nums s W) := by
  unfold grC
  have n1 : dNotN .none .none = .ok (.bool false) := rfl
  simp -implicitDefEqProofs [bestD, n1]
theorem cond_some (B W : PyData) (hx : x.length = ts.length) (h3 : ts.length ≤ 3) (hg : gs.length = ts.length) (hgs : ∀ g ∈ gs, bd (-50) 50 g) (hs : 0 < s) (hl : s.natAbs.log2 < 9000) :
    grC (g4 (pD ts gs rs) B (bestD (some x)) nums s W) = if dot gs nums / s ≤ dot gs x then .rt (.tuple [lnD x, boundD W s]) else .nx (g4 (pD ts gs rs) B (bestD (some x)) nums s W) := by
  unfold grC
  have n1 : dNotN (bestD (some x)) .none = .ok (.bool true) := rfl
  have p1 := psum_ok (ps := nums) (.inl rfl) (show gs.length ≤ 1000 by omega) hgs
  have p2 := gained_ok (rs := rs) hx h3 hg hgs
  have p1 : f_products_sum [.list (gs.map PyData.int), lnD nums] = _ := p1
  have p2 : f_gained [pD ts gs rs, bestD (some x)] = _ := p2
  have hf := fldg (ts := ts) (gs := gs) (rs := rs) (B := B) (b := bestD (some x)) (nums := nums) (s := s) (W := W)
  have b2 : bestD (some x) = lnD x := rfl
  by_cases z : dot gs nums / s ≤ dot gs x
  · rw [if_pos z]
    simp -implicitDefEqProofs [n1, hf, p1, p2, hs, hl, z, -gFld_ap]
    exact ⟨rfl, rfl⟩
  · rw [if_neg z]
    simp -implicitDefEqProofs [n1, hf, p1, p2, hs, hl, z, -gFld_ap]
theorem tail_point (B b W : PyData) (hn : nums.length ≤ 100) (hs : 0 < s) (hl : s.natAbs.log2 < 9000) (hb : f_broken_unknown [lnD nums, .int s] = .ok .none) :
    grT rec (g4 P B b nums s W) = .rt (.tuple [lnD (nums.map fun x => x / s), boundD W s]) := by
  unfold grT
  have hc := comp_map (vs := [10]) (i := 10) (E := (gFdiv (gVar 10) (gVar 8))) (gi := (gItA (gVar 7))) (ρ := [some P, some B, some b, some (mostD nums s W), some (.str "most"), some W, some (.int s), some (lnD nums), some (.int s), some .none, none, none, none, none]) (ds := nums.map PyData.int) (fun d => match d with | .int x => .int (x / s) | d => d)
    (by rfl) (lim_ge (by rw [List.length_map]; omega)) (fun d hd => by
      obtain ⟨x, _, rfl⟩ := List.mem_map.mp hd
      simp -implicitDefEqProofs [hs, hl])
  have n1 : dIsN .none .none = .ok (.bool true) := rfl
  simp -implicitDefEqProofs [hb, n1, hc]
  rfl
theorem tail_cut (W : PyData) {u : Nat} {a : Int} {b' b'' : Option (List Int)} {S T : PyData} {bs : Box} {b : Option (List Int)} (hbl : bs.length ≤ 100) (hu : u < bs.length) (hn : u < nums.length) (hs : 0 < s) (hl : s.natAbs.log2 < 9000) (hb : f_broken_unknown [lnD nums, .int s] = .ok (.int (u : Nat))) (ha : nums.getD u 0 / s = a)
    (h1 : rec [P, boxD (bs.set u (loB bs u, a)), bestD b] = .ok (.tuple [bestD b', S])) (h2 : rec [P, boxD (bs.set u (a + 1, hiB bs u)), bestD b'] = .ok (.tuple [bestD b'', T])) :
    grT rec (g4 P (boxD bs) (bestD b) nums s W) = .rt (.tuple [bestD b'', cutD u a S T]) := by
  have i1 : dIx (lnD nums) (.int (u : Nat)) = .ok (.int (nums.getD u 0)) := dIx_l _ _ (by
    rw [atI_map, atI_nat (x := nums.getD u 0) (by rw [getD_eq hn, List.getElem?_eq_getElem hn])]
    rfl)
  have n1 : dIsN (.int (u : Nat)) .none = .ok (.bool false) := rfl
  have l1 := below_ok hbl hu a
  have l2 := above_ok hbl hu a
  unfold grT
  simp -implicitDefEqProofs [-List.getD_eq_getElem?_getD, hb, n1, i1, hs, hl, ha, l1, l2, h1, h2]
  rfl
end
end K11

set_option Elab.async false
set_option linter.all false
set_option maxRecDepth 100000
/-! Boxes and trees. -/
namespace K11
open PySem PySem.Spec L2 Fn
open _root_.Tab (cel)
/-- a list of numbers as a spot -/
def xf (x : List Int) : Nat → Int := fun u => x.getD u 0
theorem dot_sx {ks ps : List Int} (h : ks.length ≤ 3) : dot ks ps = Sx.dot (xf ks) (xf ps) := by
  unfold dot prods Sx.dot xf
  match ks, ps, h with
  | [], _, _ => simp
  | _ :: _, [], _ => simp
  | [a], p :: ps, _ => simp
  | [a, b], [p], _ => simp
  | [a, b], p :: q :: ps, _ => simp
  | [a, b, c], [p], _ => simp
  | [a, b, c], [p, q], _ => simp
  | [a, b, c], p :: q :: r :: ps, _ => simp; omega
/-- in the box -/
def InB (bs : Box) (x : List Int) : Prop := ∀ u, u < bs.length → loB bs u ≤ x.getD u 0 ∧ x.getD u 0 ≤ hiB bs u
def RowsM (rs : List PyData) (x : List Int) : Prop := ∀ r ∈ rs, rowB x r = true
section
variable {ts gs x : List Int} {rs : List PyData} {bs : Box} {c : Sx.LC} {n k : Nat} {fs : List (List Int × Int)} {gain : List Int}
theorem meet_iff' {X : Nat → Int} : Sx.Meet fs gain X ↔ ∀ p ∈ fs, Sx.dot (xf p.1) X ≤ p.2 := by
  constructor
  · intro h p hp
    obtain ⟨f, hf, e⟩ := List.getElem_of_mem hp
    have := h f hf
    have e1 : Sx.fvec fs gain f = xf p.1 := by
      funext u
      unfold Sx.fvec xf
      rw [if_pos hf, getD_eq hf, e]
    have e2 : Sx.fbd fs f = p.2 := by
      unfold Sx.fbd
      rw [getD_eq hf, e]
    rw [e1, e2] at this
    exact this
  · intro h f hf
    have hp := Sx.getD_mem (x := (([], 0) : List Int × Int)) hf
    have := h _ hp
    have e1 : Sx.fvec fs gain f = xf (fs.getD f ([], 0)).1 := by
      funext u
      unfold Sx.fvec xf
      rw [if_pos hf]
    rw [e1]
    exact this
theorem onlyL_unit (u : Nat) (z : Int) (n : Nat) : onlyL u z n = Sx.unitL n u z := rfl
theorem rowF_meet {r : PyData} (hr : IsRow n r) (h3 : n ≤ 3) : Sx.dot (xf (rowF r).1) (xf x) ≤ (rowF r).2 ↔ rowB x r = true := by
  obtain ⟨ks, w, b, rfl, h1, h2, hw, h4⟩ := hr
  rw [rowF_ks, rowB_ks]
  have e := dot_sx (ps := x) (show ks.length ≤ 3 by omega)
  rcases hw with rfl | rfl
  · rw [if_pos rfl, if_pos rfl, decide_eq_true_iff, e]
  · rw [if_neg lne, if_neg lne, decide_eq_true_iff, e]
    have e2 : ∀ u, xf (ks.map fun k => -k) u = - xf ks u := fun u => by
      unfold xf
      rw [List.getD_eq_getElem?_getD, List.getElem?_map, List.getD_eq_getElem?_getD]
      cases ks[u]? <;> simp
    unfold Sx.dot
    rw [e2, e2, e2]
    simp only [Int.neg_mul]
    omega
theorem box_meet (h3 : bs.length ≤ 3) : (∀ p ∈ spansF bs bs.length, Sx.dot (xf p.1) (xf x) ≤ p.2) ↔ InB bs x := by
  have one : ∀ u, u < bs.length → ∀ z : Int, Sx.dot (xf (onlyL u z bs.length)) (xf x) = z * x.getD u 0 := fun u hu z => Sx.dot_unit hu h3 z (xf x)
  constructor
  · intro h u hu
    have m : ∀ p ∈ spanF bs.length u (bs.getD u (0, 0)), p ∈ spansF bs bs.length := fun p hp => List.mem_flatMap.mpr ⟨u, List.mem_range.mpr hu, hp⟩
    have a := h _ (m _ List.mem_cons_self)
    have b := h _ (m _ (List.mem_cons_of_mem _ List.mem_cons_self))
    rw [one u hu] at a b
    unfold loB hiB
    constructor <;> omega
  · intro h p hp
    obtain ⟨u, hu, hp⟩ := List.mem_flatMap.mp hp
    have hu := List.mem_range.mp hu
    obtain ⟨a, b⟩ := h u hu
    unfold loB at a
    unfold hiB at b
    unfold spanF at hp
    simp only [List.mem_cons, List.not_mem_nil, or_false] at hp
    rcases hp with rfl | rfl
    · rw [one u hu]
      show 1 * x.getD u 0 ≤ (bs.getD u (0, 0)).2
      omega
    · rw [one u hu]
      show -1 * x.getD u 0 ≤ -(bs.getD u (0, 0)).1
      omega
theorem meet_iff (hb : bs.length = ts.length) (h3 : ts.length ≤ 3) (hrs : ∀ r ∈ rs, IsRow ts.length r) : Sx.Meet (factsL rs bs) gs (xf x) ↔ RowsM rs x ∧ InB bs x := by
  rw [meet_iff', ← box_meet (by omega)]
  unfold factsL
  constructor
  · intro h
    exact ⟨fun r hr => (rowF_meet (hrs r hr) h3).mp (h _ (List.mem_append_left _ (List.mem_map_of_mem hr))), fun p hp => h p (List.mem_append_right _ hp)⟩
  · intro h p hp
    rcases List.mem_append.mp hp with q | q
    · obtain ⟨r, hr, rfl⟩ := List.mem_map.mp q
      exact (rowF_meet (hrs r hr) h3).mpr (h.1 r hr)
    · exact h.2 p q
/-! ### parts of a box -/
def width (bs : Box) : Nat := (bs.map fun b => (b.2 - b.1).toNat).sum
theorem width_set : ∀ (bs : Box) (u : Nat) (b : Int × Int), u < bs.length → width (bs.set u b) + ((bs.getD u (0, 0)).2 - (bs.getD u (0, 0)).1).toNat = width bs + (b.2 - b.1).toNat
  | [], u, b, h => absurd h (Nat.not_lt_zero _)
  | a :: bs, 0, b, _ => by
    show ((b :: bs).map _).sum + _ = ((a :: bs).map _).sum + _
    rw [List.map_cons, List.map_cons, List.sum_cons, List.sum_cons]
    show _ + (a.2 - a.1).toNat = _
    omega
  | a :: bs, u + 1, b, h => by
    have := width_set bs u b (Nat.lt_of_succ_lt_succ h)
    unfold width at this ⊢
    rw [List.set_cons_succ, List.map_cons, List.map_cons, List.sum_cons, List.sum_cons, List.getD_cons_succ]
    omega
theorem lo_set {u v : Nat} {b : Int × Int} (hu : u < bs.length) : loB (bs.set u b) v = if v = u then b.1 else loB bs v := by
  unfold loB
  rw [List.getD_eq_getElem?_getD, List.getD_eq_getElem?_getD]
  by_cases z : v = u
  · subst z
    rw [List.getElem?_set_self hu, if_pos rfl]; rfl
  · rw [List.getElem?_set_ne (fun q => z q.symm), if_neg z]
theorem hi_set {u v : Nat} {b : Int × Int} (hu : u < bs.length) : hiB (bs.set u b) v = if v = u then b.2 else hiB bs v := by
  unfold hiB
  rw [List.getD_eq_getElem?_getD, List.getD_eq_getElem?_getD]
  by_cases z : v = u
  · subst z
    rw [List.getElem?_set_self hu, if_pos rfl]; rfl
  · rw [List.getElem?_set_ne (fun q => z q.symm), if_neg z]
theorem inb_set {u : Nat} {b : Int × Int} (hu : u < bs.length) (h1 : loB bs u ≤ b.1) (h2 : b.2 ≤ hiB bs u) : InB (bs.set u b) x ↔ InB bs x ∧ b.1 ≤ x.getD u 0 ∧ x.getD u 0 ≤ b.2 := by
  unfold InB
  rw [List.length_set]
  constructor
  · intro h
    have hu' := h u hu
    rw [lo_set hu, hi_set hu, if_pos rfl, if_pos rfl] at hu'
    refine ⟨fun v hv => ?_, hu'⟩
    by_cases z : v = u
    · subst z; omega
    · have := h v hv
      rw [lo_set hu, hi_set hu, if_neg z, if_neg z] at this
      exact this
  · intro ⟨h, q⟩ v hv
    rw [lo_set hu, hi_set hu]
    by_cases z : v = u
    · subst z
      rw [if_pos rfl, if_pos rfl]; exact q
    · rw [if_neg z, if_neg z]; exact h v hv
theorem inBox_iff : InBox ts bs ↔ bs.length = ts.length ∧ ∀ u, u < ts.length → 0 ≤ loB bs u ∧ loB bs u ≤ hiB bs u ∧ hiB bs u ≤ ts.getD u 0 := by
  unfold InBox
  constructor
  · intro ⟨h, q⟩
    refine ⟨h, fun u hu => ?_⟩
    unfold loB hiB
    rw [getD_eq (show u < bs.length by omega), getD_eq hu]
    exact q u _ _ (List.getElem?_eq_getElem (by omega)) (List.getElem?_eq_getElem hu)
  · intro ⟨h, q⟩
    refine ⟨h, fun i b t hb ht => ?_⟩
    have hi : i < ts.length := (List.getElem?_eq_some_iff.mp ht).1
    have := q i hi
    unfold loB hiB at this
    rw [List.getD_eq_getElem?_getD, hb, List.getD_eq_getElem?_getD, ht] at this
    exact this
theorem inBox_set {u : Nat} {b : Int × Int} (h : InBox ts bs) (hu : u < ts.length) (h0 : b.1 ≤ b.2) (h1 : loB bs u ≤ b.1) (h2 : b.2 ≤ hiB bs u) : InBox ts (bs.set u b) := by
  obtain ⟨hl, q⟩ := inBox_iff.mp h
  refine inBox_iff.mpr ⟨by rw [List.length_set]; exact hl, fun v hv => ?_⟩
  have a := q v hv
  rw [lo_set (by omega), hi_set (by omega)]
  by_cases z : v = u
  · subst z
    rw [if_pos rfl, if_pos rfl]; omega
  · rw [if_neg z, if_neg z]; exact a
/-! ### the last corner -/
theorem numsL_xf (hb : bs.length = n) (h3 : n ≤ 3) (first : Nat) : xf (numsL c n first bs) = c.nums n first (loB bs) := by
  funext u
  unfold xf numsL Sx.LC.nums
  by_cases h : u < n
  · rw [Sx.getD_map' (y := 0) (by rw [List.length_range]; exact h), if_pos h, List.getD_eq_getElem?_getD (l := List.range n), List.getElem?_range h]
    rfl
  · rw [Sx.getD_big (by rw [List.length_map, List.length_range]; omega), if_neg h]
theorem numsL_len (first : Nat) : (numsL c n first bs).length = n := by unfold numsL; rw [List.length_map, List.length_range]
theorem slack_nn (h : c.Inv n k fs gain) (hp : ∀ i, i < k → 0 ≤ cel c.t i n) {f : Nat} (hf : f < n + k) : 0 ≤ c.slack n f := by
  rcases h.good.cover f hf with ⟨j, hj, e⟩ | ⟨i, hi, e⟩
  · have e : c.T.getD j 0 = f := e
    rw [← e, Sx.slack_T h hj]; exact Int.le_refl _
  · have e : c.O.getD i 0 = f := e
    rw [← e, Sx.slack_O h hi]; exact hp i hi
end
/-- a tree of a box -/
inductive Tr (ts gs : List Int) (rs : List PyData) : Option Int → Box → PyData → Prop
  | none {m : Option Int} {bs : Box} (c : Sx.LC) (r : Nat) : c.Inv ts.length (Sx.kk (factsL rs bs) ts.length) (factsL rs bs) gs → r < Sx.kk (factsL rs bs) ts.length → cel c.t r ts.length < 0 → (∀ j, j < ts.length → 0 ≤ cel c.t r j) →
      Tr ts gs rs m bs (noneR c ts.length (Sx.kk (factsL rs bs) ts.length) r)
  | bound {g : Int} {bs : Box} (c : Sx.LC) : c.Inv ts.length (Sx.kk (factsL rs bs) ts.length) (factsL rs bs) gs → cel c.t (Sx.kk (factsL rs bs) ts.length) ts.length < c.s * (g + 1) →
      Tr ts gs rs (some g) bs (boundD (lnD (wts c.T (c.t.getD (Sx.kk (factsL rs bs) ts.length) []) (ts.length + Sx.kk (factsL rs bs) ts.length))) c.s)
  | cut {m : Option Int} {bs : Box} (u : Nat) (a : Int) (S T : PyData) : u < ts.length → loB bs u ≤ a → a < hiB bs u → Tr ts gs rs m (bs.set u (loB bs u, a)) S → Tr ts gs rs m (bs.set u (a + 1, hiB bs u)) T → Tr ts gs rs m bs (cutD u a S T)
theorem Tr.up {ts gs : List Int} {rs : List PyData} {m m' : Option Int} {bs : Box} {T : PyData} (h : Tr ts gs rs m bs T) (hm : ∀ g, m = some g → ∃ g', m' = some g' ∧ g ≤ g') : Tr ts gs rs m' bs T := by
  induction h with
  | none c r h1 h2 h3 h4 => exact .none c r h1 h2 h3 h4
  | bound c h1 h2 =>
    obtain ⟨g', e, hg⟩ := hm _ rfl
    subst e
    refine .bound c h1 (Int.lt_of_lt_of_le h2 ?_)
    have s0 : 0 < c.s := h1.good.ok.s
    exact Int.mul_le_mul_of_nonneg_left (by omega) (Int.le_of_lt s0)
  | cut u a S T h1 h2 h3 _ _ i1 i2 => exact .cut u a S T h1 h2 h3 (i1 hm) (i2 hm)
end K11

set_option Elab.async false
set_option linter.all false
set_option maxRecDepth 100000
/-! What grown tells. -/
namespace K11
open PySem PySem.Spec L2 Fn
open _root_.Tab (cel)
/-- what grown tells of a box: the best so far was b -/
structure GSpec (ts gs : List Int) (rs : List PyData) (bs : Box) (b b' : Option (List Int)) (T : PyData) : Prop where
  len : ∀ x, b' = some x → x.length = ts.length
  up : ∀ x, b = some x → ∃ y, b' = some y ∧ dot gs x ≤ dot gs y
  src : b' = b ∨ ∃ y, b' = some y ∧ RowsM rs y ∧ InB bs y
  all : ∀ x : List Int, x.length = ts.length → RowsM rs x → InB bs x → ∃ y, b' = some y ∧ dot gs x ≤ dot gs y
  tree : Tr ts gs rs (b'.map (dot gs)) bs T
section
variable {ts gs : List Int} {rs : List PyData} {bs : Box} {c : Sx.LC}
structure Most (ts gs : List Int) (rs : List PyData) (bs : Box) (c : Sx.LC) : Prop where
  inv : c.Inv ts.length (Sx.kk (factsL rs bs) ts.length) (factsL rs bs) gs
  pos : ∀ i, i < Sx.kk (factsL rs bs) ts.length → 0 ≤ cel c.t i ts.length
theorem Most.s (m : Most ts gs rs bs c) : 0 < c.s := m.inv.good.ok.s
abbrev numsC (ts : List Int) (rs : List PyData) (bs : Box) (c : Sx.LC) : List Int := numsL c ts.length rs.length bs
theorem Most.gain (m : Most ts gs rs bs c) (p : ProbOk ts gs rs) (h : InBox ts bs) : dot gs (numsC ts rs bs c) = cel c.t (Sx.kk (factsL rs bs) ts.length) ts.length := by
  have B := box_facts h p.t p.n3 p.r6 p.r
  rw [dot_sx (by have := p.g; have := p.n3; omega), numsL_xf h.1 p.n3]
  exact (Sx.nums_fact B p.g m.inv p.n3).2
theorem Most.meets (m : Most ts gs rs bs c) (p : ProbOk ts gs rs) (h : InBox ts bs) {f : Nat} (hf : f < (factsL rs bs).length) : Sx.dot (Sx.fvec (factsL rs bs) gs f) (xf (numsC ts rs bs c)) ≤ c.s * Sx.fbd (factsL rs bs) f := by
  have B := box_facts h p.t p.n3 p.r6 p.r
  rw [numsL_xf h.1 p.n3]
  have e := (Sx.nums_fact B p.g m.inv p.n3).1 f hf
  have s := slack_nn m.inv m.pos (f := f) (by rw [Sx.kk_n B]; exact hf)
  omega
theorem Most.lim (m : Most ts gs rs bs c) (p : ProbOk ts gs rs) (h : InBox ts bs) {u : Nat} (hu : u < ts.length) : loB bs u * c.s ≤ (numsC ts rs bs c).getD u 0 ∧ (numsC ts rs bs c).getD u 0 ≤ hiB bs u * c.s := by
  have hl := h.1
  have B := box_facts h p.t p.n3 p.r6 p.r
  have one : ∀ (u : Nat) (hu : u < ts.length) (z : Int), Sx.dot (fun v => (Sx.unitL ts.length u z).getD v 0) (xf (numsC ts rs bs c)) = z * (numsC ts rs bs c).getD u 0 := fun u hu z => Sx.dot_unit hu p.n3 z _
  have key : ∀ f (z b : Int), f < (factsL rs bs).length → (factsL rs bs).getD f ([], 0) = (Sx.unitL ts.length u z, b) → z * (numsC ts rs bs c).getD u 0 ≤ c.s * b := fun f z b hf e => by
    have := m.meets p h hf
    have e1 : Sx.fvec (factsL rs bs) gs f = fun v => (Sx.unitL ts.length u z).getD v 0 := by
      funext w
      unfold Sx.fvec
      rw [if_pos hf, e]
    have e2 : Sx.fbd (factsL rs bs) f = b := by unfold Sx.fbd; rw [e]
    rw [e1, e2, one u hu z] at this
    exact this
  have a := key (rs.length + 2 * u + 1) (-1) _ (by rw [B.len]; omega) (B.lo u hu)
  have b := key (rs.length + 2 * u) 1 _ (by rw [B.len]; omega) (B.hi u hu)
  have e3 : c.s * -loB bs u = - (loB bs u * c.s) := by rw [Int.mul_neg, Int.mul_comm]
  have e4 : c.s * hiB bs u = hiB bs u * c.s := Int.mul_comm _ _
  rw [e3] at a
  rw [e4] at b
  omega
theorem Most.most (m : Most ts gs rs bs c) (p : ProbOk ts gs rs) (h : InBox ts bs) {x : List Int} (hr : RowsM rs x) (hb : InB bs x) : dot gs x ≤ dot gs (numsC ts rs bs c) / c.s := by
  have B := box_facts h p.t p.n3 p.r6 p.r
  have := Sx.gains_most m.inv (Sx.kk_n B) p.n3 ((meet_iff (gs := gs) (x := x) h.1 p.n3 p.r).mpr ⟨hr, hb⟩)
  rw [m.gain p h]
  have e : dot gs x = Sx.dot (fun u => gs.getD u 0) (xf x) := dot_sx (by have := p.g; have := p.n3; omega)
  rw [← e] at this
  refine (Int.le_ediv_iff_mul_le m.s).mpr ?_
  rw [Int.mul_comm]; exact this
theorem dot_map_s {ks ps : List Int} {s : Int} (h : ks.length ≤ 3) (hd : ∀ u, ps.getD u 0 / s * s = ps.getD u 0) : dot ks ps = dot ks (ps.map fun x => x / s) * s := by
  rw [dot_sx h, dot_sx h]
  have e : ∀ u, xf ps u = xf (ps.map fun x => x / s) u * s := fun u => by
    unfold xf
    by_cases hu : u < ps.length
    · rw [Sx.getD_map' (y := 0) hu]; exact (hd u).symm
    · rw [Sx.getD_big (by omega), Sx.getD_big (by rw [List.length_map]; omega)]; simp
  unfold Sx.dot
  rw [e 0, e 1, e 2]
  grind
theorem sx_map_s {a : Nat → Int} {ps : List Int} {s : Int} (hd : ∀ u, ps.getD u 0 / s * s = ps.getD u 0) : Sx.dot a (xf ps) = Sx.dot a (xf (ps.map fun x => x / s)) * s := by
  have e : ∀ u, xf ps u = xf (ps.map fun x => x / s) u * s := fun u => by
    unfold xf
    by_cases hu : u < ps.length
    · rw [Sx.getD_map' (y := 0) hu]; exact (hd u).symm
    · rw [Sx.getD_big (by omega), Sx.getD_big (by rw [List.length_map]; omega)]; simp
  unfold Sx.dot
  rw [e 0, e 1, e 2]
  grind
theorem Most.point (m : Most ts gs rs bs c) (p : ProbOk ts gs rs) (h : InBox ts bs) (hd : ∀ u, u < (numsC ts rs bs c).length → (numsC ts rs bs c).getD u 0 / c.s * c.s = (numsC ts rs bs c).getD u 0) :
    RowsM rs ((numsC ts rs bs c).map fun x => x / c.s) ∧ InB bs ((numsC ts rs bs c).map fun x => x / c.s) ∧ dot gs ((numsC ts rs bs c).map fun x => x / c.s) = dot gs (numsC ts rs bs c) / c.s := by
  have hd' : ∀ u, (numsC ts rs bs c).getD u 0 / c.s * c.s = (numsC ts rs bs c).getD u 0 := fun u => by
    by_cases z : u < (numsC ts rs bs c).length
    · exact hd u z
    · rw [Sx.getD_big (by omega)]; simp
  have M : Sx.Meet (factsL rs bs) gs (xf ((numsC ts rs bs c).map fun x => x / c.s)) := fun f hf => by
    have := m.meets p h hf
    rw [sx_map_s hd', Int.mul_comm] at this
    exact Int.le_of_mul_le_mul_left this m.s
  obtain ⟨a, b⟩ := (meet_iff h.1 p.n3 p.r).mp M
  refine ⟨a, b, ?_⟩
  rw [dot_map_s (s := c.s) (ps := numsC ts rs bs c) (by have := p.g; have := p.n3; omega) hd', Int.mul_ediv_cancel _ (by have := m.s; omega)]
theorem div_lt {a s q : Int} (hs : 0 < s) (h : a / s ≤ q) : a < s * (q + 1) := by
  have := Int.lt_ediv_add_one_mul_self a hs
  have h2 : (a / s + 1) * s ≤ (q + 1) * s := Int.mul_le_mul_of_nonneg_right (by omega) (Int.le_of_lt hs)
  rw [Int.mul_comm s]
  omega
theorem grown_ok (p : ProbOk ts gs rs) : ∀ (m : Nat) (bs : Box) (b : Option (List Int)), InBox ts bs → width bs < m → (∀ x, b = some x → x.length = ts.length) →
    ∃ b' T, f_grown m [pD ts gs rs, boxD bs, bestD b] = .ok (.tuple [bestD b', T]) ∧ GSpec ts gs rs bs b b' T
  | 0, bs, b, _, hw, _ => absurd hw (Nat.not_lt_zero _)
  | m + 1, bs, b, h, hw, hb => by
    obtain ⟨d, hd, L⟩ := looseO_ok p h
    have hl : f_looseN [pD ts gs rs, boxD bs] = .ok d := by
      unfold f_looseN
      show noEx (looseO _ _) = _
      rw [hd]; rfl
    have B := box_facts h p.t p.n3 p.r6 p.r
    have n3 := p.n3
    have bl := h.1
    have e0 : rho0 14 [pD ts gs rs, boxD bs, bestD b] = g0 (pD ts gs rs) (boxD bs) (bestD b) := rfl
    have run : ∀ z : PyData, g_grown (f_grown m) (g0 (pD ts gs rs) (boxD bs) (bestD b)) = .rt z → f_grown (m + 1) [pD ts gs rs, boxD bs, bestD b] = .ok z := fun z e => by
      show noEx (fnG 14 (g_grown (f_grown m)) _) = _
      unfold fnG
      rw [e0, e]; rfl
    rcases L with ⟨c, inv, pos, rfl⟩ | ⟨c, r, inv, hr, hn, hp, rfl⟩
    · have M : Most ts gs rs bs c := ⟨inv, pos⟩
      have s0 := M.s
      obtain ⟨sm, _, _⟩ := inv_sm inv n3 (factsL_good h p.t n3 p.r6 p.r) p.gb
      have sl := sm.log (by decide) (by decide)
      have st := step_most (rec := f_grown m) (P := pD ts gs rs) (B := boxD bs) (b := bestD b) (nums := numsC ts rs bs c) (s := c.s) (W := lnD (wts c.T (c.t.getD (Sx.kk (factsL rs bs) ts.length) []) (ts.length + Sx.kk (factsL rs bs) ts.length))) hl
      generalize eW : lnD (wts c.T (c.t.getD (Sx.kk (factsL rs bs) ts.length) []) (ts.length + Sx.kk (factsL rs bs) ts.length)) = W at st hl
      have bnd : ∀ q : Int, dot gs (numsC ts rs bs c) / c.s ≤ q → Tr ts gs rs (some q) bs (boundD W c.s) := fun q hq => by
        rw [← eW]
        refine .bound c inv ?_
        rw [← M.gain p h]
        exact div_lt s0 hq
      have nl : (numsC ts rs bs c).length = ts.length := numsL_len _
      -- what follows where the box is not let go
      have tail : (∀ x, b = some x → dot gs x ≤ dot gs (numsC ts rs bs c) / c.s) → ∃ b' T, grT (f_grown m) (g4 (pD ts gs rs) (boxD bs) (bestD b) (numsC ts rs bs c) c.s W) = .rt (.tuple [bestD b', T]) ∧ GSpec ts gs rs bs b b' T := fun hlow => by
        have qs : ∀ u, u < (numsC ts rs bs c).length → loB bs u ≤ (numsC ts rs bs c).getD u 0 / c.s ∧ (numsC ts rs bs c).getD u 0 / c.s ≤ hiB bs u := fun u hu => by
          obtain ⟨a, b⟩ := M.lim p h (u := u) (by omega)
          refine ⟨(Int.le_ediv_iff_mul_le s0).mpr a, ?_⟩
          have := Int.ediv_le_ediv s0 b
          rw [Int.mul_ediv_cancel _ (by omega)] at this
          exact this
        have ib := (inBox_iff.mp h).2
        have sq : ∀ u, u < (numsC ts rs bs c).length → Sm 40 ((numsC ts rs bs c).getD u 0 / c.s) := fun u hu => by
          obtain ⟨a, b⟩ := qs u hu
          obtain ⟨i1, i2, i3⟩ := ib u (by omega)
          have ht := (p.t _ (Sx.getD_mem (l := ts) (x := 0) (by omega : u < ts.length))).2
          exact sm40 (m := 20) (by omega) (by decide)
        rcases broken_ok (nums := numsC ts rs bs c) (by omega) s0 sm sq with ⟨k1, k2⟩ | ⟨u, hu, k1, k2⟩
        · obtain ⟨a1, a2, a3⟩ := M.point p h k2
          refine ⟨some ((numsC ts rs bs c).map fun x => x / c.s), boundD W c.s, tail_point _ _ _ (by omega) s0 sl k1, ?_, ?_, ?_, ?_, ?_⟩
          · intro x e
            cases e
            rw [List.length_map]; exact nl
          · intro x e
            exact ⟨_, rfl, by rw [a3]; exact hlow x e⟩
          · exact .inr ⟨_, rfl, a1, a2⟩
          · intro x _ q1 q2
            exact ⟨_, rfl, by rw [a3]; exact M.most p h q1 q2⟩
          · exact bnd _ (by rw [a3]; exact Int.le_refl _)
        · obtain ⟨q1, q2⟩ := qs u hu
          obtain ⟨lm1, lm2⟩ := M.lim p h (u := u) (by omega)
          have hu' : u < ts.length := by omega
          have hub : u < bs.length := by omega
          generalize ea : (numsC ts rs bs c).getD u 0 / c.s = a at q1 q2
          have alt : a < hiB bs u := by
            apply Classical.byContradiction
            intro z
            have : a = hiB bs u := by omega
            apply k2
            rw [ea]
            have h1 := Int.ediv_mul_le ((numsC ts rs bs c).getD u 0) (show c.s ≠ 0 by omega)
            rw [ea] at h1
            rw [this] at h1 ⊢
            omega
          have w1 := width_set bs u (loB bs u, a) hub
          have w2 := width_set bs u (a + 1, hiB bs u) hub
          have w1 : width (bs.set u (loB bs u, a)) + (hiB bs u - loB bs u).toNat = width bs + (a - loB bs u).toNat := w1
          have w2 : width (bs.set u (a + 1, hiB bs u)) + (hiB bs u - loB bs u).toNat = width bs + (hiB bs u - (a + 1)).toNat := w2
          have x1 := inBox_set (b := (loB bs u, a)) h hu' q1 (Int.le_refl _) (Int.le_of_lt alt)
          have x2 := inBox_set (b := (a + 1, hiB bs u)) h hu' (by show a + 1 ≤ hiB bs u; omega) (by show loB bs u ≤ a + 1; omega) (Int.le_refl _)
          obtain ⟨b1, S, g1, G1⟩ := grown_ok p m (bs.set u (loB bs u, a)) b x1 (by omega) hb
          obtain ⟨b2, T, g2, G2⟩ := grown_ok p m (bs.set u (a + 1, hiB bs u)) b1 x2 (by omega) G1.len
          have in1 : ∀ x : List Int, InB (bs.set u (loB bs u, a)) x ↔ InB bs x ∧ loB bs u ≤ x.getD u 0 ∧ x.getD u 0 ≤ a := fun x => inb_set hub (Int.le_refl _) (Int.le_of_lt alt)
          have in2 : ∀ x : List Int, InB (bs.set u (a + 1, hiB bs u)) x ↔ InB bs x ∧ a + 1 ≤ x.getD u 0 ∧ x.getD u 0 ≤ hiB bs u := fun x => inb_set hub (show loB bs u ≤ a + 1 by omega) (Int.le_refl _)
          refine ⟨b2, cutD u a S T, tail_cut W (by omega) hub hu s0 sl k1 ea g1 g2, G2.len, ?_, ?_, ?_, ?_⟩
          · intro x e
            obtain ⟨y, e1, l1⟩ := G1.up x e
            obtain ⟨z, e2, l2⟩ := G2.up y e1
            exact ⟨z, e2, by omega⟩
          · rcases G2.src with e | ⟨y, e, r1, r2⟩
            · rcases G1.src with e' | ⟨y, e', r1, r2⟩
              · exact .inl (e.trans e')
              · exact .inr ⟨y, e.trans e', r1, ((in1 y).mp r2).1⟩
            · exact .inr ⟨y, e, r1, ((in2 y).mp r2).1⟩
          · intro x hx r1 r2
            obtain ⟨v1, v2⟩ := r2 u hub
            by_cases z : x.getD u 0 ≤ a
            · obtain ⟨y, e1, l1⟩ := G1.all x hx r1 ((in1 x).mpr ⟨r2, v1, z⟩)
              obtain ⟨z, e2, l2⟩ := G2.up y e1
              exact ⟨z, e2, by omega⟩
            · exact G2.all x hx r1 ((in2 x).mpr ⟨r2, by omega, v2⟩)
          · refine .cut u a S T hu' q1 alt (G1.tree.up fun g e => ?_) G2.tree
            cases b1 with
            | none => cases e
            | some y =>
              cases e
              obtain ⟨z, e2, l2⟩ := G2.up y rfl
              subst e2
              exact ⟨_, rfl, l2⟩
      cases b with
      | none =>
        obtain ⟨b', T, e, G⟩ := tail (fun x e => by cases e)
        refine ⟨b', T, run _ ?_, G⟩
        rw [st, cond_none, R.seq_nx]; exact e
      | some x =>
        have hx := hb x rfl
        have cs := cond_some (ts := ts) (rs := rs) (nums := numsC ts rs bs c) (boxD bs) W hx n3 p.g p.gb s0 sl
        by_cases z : dot gs (numsC ts rs bs c) / c.s ≤ dot gs x
        · rw [if_pos z] at cs
          refine ⟨some x, boundD W c.s, run _ ?_, hb, ?_, .inl rfl, ?_, bnd _ z⟩
          · rw [st, cs]; rfl
          · intro y e
            cases e
            exact ⟨_, rfl, Int.le_refl _⟩
          · intro y _ r1 r2
            have := M.most p h r1 r2
            exact ⟨_, rfl, by omega⟩
        · rw [if_neg z] at cs
          obtain ⟨b', T, e, G⟩ := tail (fun y e => by cases e; omega)
          refine ⟨b', T, run _ ?_, G⟩
          rw [st, cs, R.seq_nx]; exact e
    · refine ⟨b, noneR c ts.length (Sx.kk (factsL rs bs) ts.length) r, run _ (step_none hl), hb, ?_, .inl rfl, ?_, .none c r inv hr hn hp⟩
      · intro x e
        exact ⟨x, e, Int.le_refl _⟩
      · intro x _ r1 r2
        exact (Sx.none_meets inv (Sx.kk_n B) n3 hr hn hp ((meet_iff (gs := gs) (x := x) h.1 n3 p.r).mpr ⟨r1, r2⟩)).elim
end
end K11

set_option Elab.async false
set_option linter.all false
set_option maxRecDepth 100000
/-! What solved tells; all points. -/
namespace K11
open PySem PySem.Spec L2 Fn
def whole (ts : List Int) : Box := ts.map fun t => (0, t)
section
variable {ts gs : List Int} {rs : List PyData}
theorem whole_in (h : ∀ t ∈ ts, bd 0 20 t) : InBox ts (whole ts) := by
  refine ⟨by unfold whole; rw [List.length_map], fun i b t hb ht => ?_⟩
  unfold whole at hb
  rw [List.getElem?_map, ht] at hb
  cases hb
  obtain ⟨a, _⟩ := h t (List.mem_of_getElem? ht)
  exact ⟨Int.le_refl _, a, Int.le_refl _⟩
theorem width_whole : ∀ {ts : List Int}, (∀ t ∈ ts, bd 0 20 t) → width (whole ts) ≤ 20 * ts.length
  | [], _ => Nat.zero_le _
  | t :: ts, h => by
    have ih := width_whole fun x hx => h x (List.mem_cons_of_mem _ hx)
    obtain ⟨a, b⟩ := h t List.mem_cons_self
    unfold width whole at ih ⊢
    rw [List.map_cons, List.map_cons, List.sum_cons, List.length_cons]
    show (t - 0).toNat + _ ≤ _
    omega
theorem whole_ok (h3 : ts.length ≤ 3) : f_whole_box [pD ts gs rs] = .ok (boxD (whole ts)) := by
  have e : rho0 2 [pD ts gs rs] = [some (pD ts gs rs), none] := rfl
  unfold f_whole_box fnG
  rw [e]
  unfold g_whole_box
  have hc := comp_map (vs := [1]) (i := 1) (E := (gTup (gConsA (gC (.int 0)) (gConsA (gVar 1) gNilA)))) (gi := (gItA (gFld "tops" 0 (gVar 0)))) (ρ := [some (pD ts gs rs), none]) (ds := ts.map PyData.int) (fun d => .tuple [.int 0, d])
    (by rfl) (lim_ge (by rw [List.length_map]; omega)) (fun d hd => by rfl)
  rw [gRet_ap, hc]
  show O.ok (PyData.list _) = O.ok (PyData.list _)
  unfold whole
  rw [List.map_map, List.map_map]
  rfl
theorem solved_ok (p : ProbOk ts gs rs) : ∃ b' T, f_solved 64 [pD ts gs rs] = .ok (.tuple [bestD b', T]) ∧ GSpec ts gs rs (whole ts) none b' T := by
  have w := width_whole p.t
  have n3 := p.n3
  obtain ⟨b', T, h1, h2⟩ := grown_ok p 64 (whole ts) none (whole_in p.t) (by omega) (fun x e => by cases e)
  refine ⟨b', T, ?_, h2⟩
  have e : rho0 1 [pD ts gs rs] = [some (pD ts gs rs)] := rfl
  have hb := whole_ok (ts := ts) (gs := gs) (rs := rs) n3
  have h1 : f_grown 64 [pD ts gs rs, boxD (whole ts), .none] = _ := h1
  unfold f_solved fnG
  rw [e]
  unfold g_solved
  have hlo : listO (boxD (whole ts)) = .ok (boxD (whole ts)) := rfl
  simp -implicitDefEqProofs [hb, h1, hlo]
end
/-! ### points -/
def stepP (A : List (List Int)) (t : Int) : List (List Int) := A.flatMap fun p => (List.range (t + 1).toNat).map fun (v : Nat) => p ++ [(v : Int)]
def ptsL (ts : List Int) : List (List Int) := ts.foldl stepP [[]]
theorem stepP_len (A : List (List Int)) (t : Int) : (stepP A t).length = A.length * (t + 1).toNat := by
  unfold stepP
  induction A with
  | nil => simp
  | cons a A ih => rw [List.flatMap_cons, List.length_append, ih, List.length_map, List.length_range, List.length_cons, Nat.add_mul]; omega
theorem pts_count {m : Nat} : ∀ (ts : List Int) (A : List (List Int)), (∀ t ∈ ts, 0 ≤ t ∧ t ≤ (m : Int)) → (ts.foldl stepP A).length ≤ A.length * (m + 1) ^ ts.length
  | [], A, _ => by simp
  | t :: ts, A, h => by
    have ih := pts_count ts (stepP A t) fun x hx => h x (List.mem_cons_of_mem _ hx)
    obtain ⟨a, b⟩ := h t List.mem_cons_self
    rw [List.foldl_cons, List.length_cons, Nat.pow_succ]
    refine Nat.le_trans ih ?_
    rw [stepP_len, Nat.mul_comm ((m + 1) ^ ts.length), ← Nat.mul_assoc]
    refine Nat.mul_le_mul_right _ (Nat.mul_le_mul_left _ ?_)
    omega
def inT : List Int → List Int → Prop
  | [], [] => True
  | y :: ys, t :: ts => (0 ≤ y ∧ y ≤ t) ∧ inT ys ts
  | _, _ => False
theorem mem_stepP {A : List (List Int)} {t : Int} {q : List Int} : q ∈ stepP A t ↔ ∃ p ∈ A, ∃ v : Int, (0 ≤ v ∧ v ≤ t) ∧ q = p ++ [v] := by
  unfold stepP
  rw [List.mem_flatMap]
  constructor
  · rintro ⟨p, hp, hq⟩
    obtain ⟨v, hv, rfl⟩ := List.mem_map.mp hq
    have := List.mem_range.mp hv
    exact ⟨p, hp, v, by omega, rfl⟩
  · rintro ⟨p, hp, v, hv, rfl⟩
    exact ⟨p, hp, List.mem_map.mpr ⟨v.toNat, List.mem_range.mpr (by omega), by rw [Int.toNat_of_nonneg hv.1]⟩⟩
theorem mem_pts' : ∀ (ts : List Int) (A : List (List Int)) (x : List Int), x ∈ ts.foldl stepP A ↔ ∃ p ∈ A, ∃ y, inT y ts ∧ x = p ++ y
  | [], A, x => by
    constructor
    · intro h
      exact ⟨x, h, [], trivial, (List.append_nil x).symm⟩
    · rintro ⟨p, hp, y, hy, rfl⟩
      cases y with
      | nil => rw [List.append_nil]; exact hp
      | cons _ _ => exact hy.elim
  | t :: ts, A, x => by
    rw [List.foldl_cons, mem_pts' ts]
    constructor
    · rintro ⟨q, hq, y, hy, rfl⟩
      obtain ⟨p, hp, v, hv, rfl⟩ := mem_stepP.mp hq
      exact ⟨p, hp, v :: y, ⟨hv, hy⟩, by simp⟩
    · rintro ⟨p, hp, y, hy, rfl⟩
      cases y with
      | nil => exact hy.elim
      | cons v y => exact ⟨p ++ [v], mem_stepP.mpr ⟨p, hp, v, hy.1, rfl⟩, y, hy.2, by simp⟩
theorem mem_pts {ts x : List Int} : x ∈ ptsL ts ↔ inT x ts := by
  unfold ptsL
  rw [mem_pts']
  constructor
  · rintro ⟨p, hp, y, hy, rfl⟩
    rw [List.mem_singleton.mp hp]; exact hy
  · intro h
    exact ⟨[], List.mem_singleton.mpr rfl, x, h, rfl⟩
theorem inT_iff : ∀ {x ts : List Int}, inT x ts ↔ x.length = ts.length ∧ (inAll x ts).all id = true
  | [], [] => ⟨fun _ => ⟨rfl, rfl⟩, fun _ => trivial⟩
  | [], _ :: _ => ⟨fun h => h.elim, fun h => by cases h.1⟩
  | _ :: _, [] => ⟨fun h => h.elim, fun h => by cases h.1⟩
  | y :: ys, t :: ts => by
    have ih := inT_iff (x := ys) (ts := ts)
    have e : (inAll (y :: ys) (t :: ts)).all id = ((decide (0 ≤ y) && decide (y ≤ t)) && (inAll ys ts).all id) := rfl
    rw [e, Bool.and_eq_true, Bool.and_eq_true, decide_eq_true_iff, decide_eq_true_iff, List.length_cons, List.length_cons]
    show (0 ≤ y ∧ y ≤ t) ∧ inT ys ts ↔ _
    rw [ih]
    constructor
    · rintro ⟨a, b, c⟩
      exact ⟨by omega, a, c⟩
    · rintro ⟨b, a, c⟩
      exact ⟨a, by omega, c⟩
theorem inB_whole : ∀ {x ts : List Int}, x.length = ts.length → (InB (whole ts) x ↔ (inAll x ts).all id = true) := fun {x ts} h => by
  unfold InB
  rw [show (whole ts).length = ts.length by unfold whole; rw [List.length_map], List.all_eq_true]
  have lo : ∀ u, u < ts.length → loB (whole ts) u = 0 ∧ hiB (whole ts) u = ts.getD u 0 := fun u hu => by
    unfold loB hiB whole
    rw [Sx.getD_map' (y := 0) hu]
    exact ⟨rfl, rfl⟩
  constructor
  · intro q b hb
    obtain ⟨u, hu, e⟩ := List.getElem_of_mem hb
    unfold inAll at hu e
    rw [List.length_zipWith] at hu
    rw [List.getElem_zipWith] at e
    have hut : u < ts.length := by omega
    have hux : u < x.length := by omega
    obtain ⟨a, c⟩ := q u hut
    rw [(lo u hut).1, getD_eq hux] at a
    rw [(lo u hut).2, getD_eq hux, getD_eq hut] at c
    rw [← e, decide_eq_true a, decide_eq_true c]; rfl
  · intro q u hu
    have hux : u < x.length := by omega
    have := q (decide (0 ≤ x[u]) && decide (x[u] ≤ ts[u])) (List.mem_iff_getElem.mpr ⟨u, by unfold inAll; rw [List.length_zipWith]; omega, by unfold inAll; rw [List.getElem_zipWith]⟩)
    have this : (decide (0 ≤ x[u]) && decide (x[u] ≤ ts[u])) = true := this
    rw [Bool.and_eq_true, decide_eq_true_iff, decide_eq_true_iff] at this
    rw [(lo u hu).1, (lo u hu).2, getD_eq hux, getD_eq hu]
    exact this
theorem meetB_iff {x ts : List Int} {rs : List PyData} (h : x.length = ts.length) : meetB ts rs x = true ↔ RowsM rs x ∧ InB (whole ts) x := by
  unfold meetB RowsM
  rw [Bool.and_eq_true, inB_whole h, List.all_eq_true (l := rs)]
  exact And.comm
end K11

set_option Elab.async false
set_option linter.all false
set_option maxRecDepth 100000
namespace K11
open PySem PySem.Spec L2 Fn
theorem tops_ok (ns : List Int) : ∃ ts : List Int, f__law_tops [scr ns] = .ok (.list (ts.map PyData.int)) ∧ ts.length = many ns ∧ ∀ t ∈ ts, bd 0 20 t := by
  have e : rho0 5 [scr ns] = [some (scr ns), none, none, none, none] := rfl
  unfold f__law_tops fnG
  rw [e]
  unfold g__law_tops
  obtain ⟨m1, m3⟩ := many_bd ns
  have hm := many_ok ns
  have c0 := cell_ok ns 0 (by decide)
  have c1 := cell_ok ns 1 (by decide)
  generalize hmm : many ns = m at *
  have hc0 := cell_ge ns 0
  have hc1 := cell_ge ns 1
  have l1 : Nat.log2 4 < 9000 := by decide
  have l2 : Nat.log2 16 < 9000 := by decide
  have l3 : Nat.log2 768 < 9000 := by decide
  obtain ⟨ts0, t1, t2, t3⟩ := comp_ints (vs := [3]) (i := 3) (E := (gMod (gFdiv (gFn 2 f__law_cell_at (gConsA (gVar 0) (gConsA (gAdd (gC (.int 1)) (gVar 3)) gNilA))) (gC (.int 4))) (gC (.int 5)))) (gi := (gRng1 (gConsA (gVar 1) gNilA)))
    (ρ := [some (scr ns), some (.int m), none, none, none]) (ds := rangeD 0 m) (bd 0 20) (by simp [rng1_nat (show m ≤ 1000 by omega)]) (by rw [rangeD_length]; exact lim_ge (by omega)) (fun d hd => by
      obtain ⟨i, hi, rfl⟩ := rangeD_mem hd
      refine ⟨cell ns (1 + i) / 4 % 5, ?_, ?_⟩
      · simp [cell_ok ns (1 + i) (by omega), l1]
      · unfold bd; omega)
  rw [rangeD_length] at t2
  have hloop : ∀ ts : List Int, ts.length = m → (∀ t ∈ ts, bd 0 20 t) → ∃ (ts1 : List Int) (x : Option PyData), gFor (aName 3) (gRng1 (gConsA (gB bMin (gConsA (gVar 1) (gConsA (gC (.int 2)) gNilA))) gNilA)) (gSetIx 2 (gVar 3) (gMod (gFdiv (gFn 2 f__law_cell_at (gConsA (gVar 0) (gConsA (gAdd (gC (.int 1)) (gVar 3)) gNilA))) (gC (.int 16))) (gC (.int 21))))
      [some (scr ns), some (.int m), some (.list (ts.map PyData.int)), none, some (.int (cell ns 1))] = .nx [some (scr ns), some (.int m), some (.list (ts1.map PyData.int)), x, some (.int (cell ns 1))] ∧ ts1.length = m ∧ ∀ t ∈ ts1, bd 0 20 t := by
    intro ts h1 h2
    obtain ⟨k, hk1, hk2⟩ : ∃ k : Nat, (if (2 : Int) < m then (2 : Int) else m) = k ∧ k ≤ m := by
      split
      · exact ⟨2, rfl, by omega⟩
      · exact ⟨m, rfl, by omega⟩
    obtain ⟨ρ', h3, ts1, x, rfl, h4, h5⟩ := for_inv (f := aName 3) (body := (gSetIx 2 (gVar 3) (gMod (gFdiv (gFn 2 f__law_cell_at (gConsA (gVar 0) (gConsA (gAdd (gC (.int 1)) (gVar 3)) gNilA))) (gC (.int 16))) (gC (.int 21))))) (ds := rangeD 0 k)
      (ρ := [some (scr ns), some (.int m), some (.list (ts.map PyData.int)), none, some (.int (cell ns 1))])
      (fun i ρ => ∃ (ts : List Int) (x : Option PyData), ρ = [some (scr ns), some (.int m), some (.list (ts.map PyData.int)), x, some (.int (cell ns 1))] ∧ ts.length = m ∧ ∀ t ∈ ts, bd 0 20 t) ⟨ts, none, rfl, h1, h2⟩ (fun i d ρ hd hi => by
        obtain ⟨ts, x, rfl, h1, h2⟩ := hi
        obtain ⟨rfl, hi⟩ := rangeD_at hd
        refine ⟨_, _, rfl, ?_, ts.set i (cell ns (1 + i) / 16 % 21), some (.int i), rfl, by simp [h1], fun t ht => ?_⟩
        · simp [cell_ok ns (1 + i) (by omega), l2, ixN_of (n := m) (i := (i : Int)) (by omega) (by omega), h1]
        · rcases List.mem_or_eq_of_mem_set ht with q | q
          · exact h2 t q
          · subst q; unfold bd; omega)
    refine ⟨ts1, x, ?_, h4, h5⟩
    rw [gFor_ap]
    simp [hk1, rng1_nat (show k ≤ 1000 by omega)]
    exact h3
  have hset : ∀ (ts : List Int) (x : Option PyData), ts.length = m → (∀ t ∈ ts, bd 0 20 t) → ∃ ts1 : List Int, gIfS (gBl (gEq (gMod (gVar 4) (gC (.int 4))) (gC (.int 3)))) (gSetIx 2 (gMod (gFdiv (gFn 2 f__law_cell_at (gConsA (gVar 0) (gConsA (gC (.int 0)) gNilA))) (gC (.int 768))) (gVar 1)) (gMod (gFdiv (gVar 4) (gC (.int 4))) (gC (.int 21)))) gNext
      [some (scr ns), some (.int m), some (.list (ts.map PyData.int)), x, some (.int (cell ns 1))] = .nx [some (scr ns), some (.int m), some (.list (ts1.map PyData.int)), x, some (.int (cell ns 1))] ∧ ts1.length = m ∧ ∀ t ∈ ts1, bd 0 20 t := by
    intro ts x h1 h2
    by_cases h : cell ns 1 % 4 = 3
    · have q1 : 0 ≤ cell ns 0 / 768 % (m : Int) := Int.emod_nonneg _ (by omega)
      have q2 : cell ns 0 / 768 % (m : Int) < m := Int.emod_lt_of_pos _ (by omega)
      refine ⟨ts.set (cell ns 0 / 768 % (m : Int)).toNat (cell ns 1 / 4 % 21), ?_, by simp [h1], fun t ht => ?_⟩
      · simp [h, c0, l1, l3, h1, ixN_of q1 q2, show 0 < m by omega]
      · rcases List.mem_or_eq_of_mem_set ht with q | q
        · exact h2 t q
        · subst q; unfold bd; omega
    · exact ⟨ts, by simp [h], h1, h2⟩
  by_cases h9 : cell ns 1 % 16 = 9
  · obtain ⟨ts1, x, h3, h4, h5⟩ := hloop ts0 t2 t3
    obtain ⟨ts2, h6, h7, h8⟩ := hset ts1 x h4 h5
    have hif : gIfS (gBl (gEq (gMod (gVar 4) (gC (.int 16))) (gC (.int 9)))) (gFor (aName 3) (gRng1 (gConsA (gB bMin (gConsA (gVar 1) (gConsA (gC (.int 2)) gNilA))) gNilA)) (gSetIx 2 (gVar 3) (gMod (gFdiv (gFn 2 f__law_cell_at (gConsA (gVar 0) (gConsA (gAdd (gC (.int 1)) (gVar 3)) gNilA))) (gC (.int 16))) (gC (.int 21))))) gNext
      [some (scr ns), some (.int m), some (.list (ts0.map PyData.int)), none, some (.int (cell ns 1))] = .nx [some (scr ns), some (.int m), some (.list (ts1.map PyData.int)), x, some (.int (cell ns 1))] := by simp [h9, h3]
    exact ⟨ts2, by simp [c0, c1, hm, t1, hif, h6, -gIfS_ap], h7, h8⟩
  · obtain ⟨ts2, h6, h7, h8⟩ := hset ts0 none t2 t3
    have hif : gIfS (gBl (gEq (gMod (gVar 4) (gC (.int 16))) (gC (.int 9)))) (gFor (aName 3) (gRng1 (gConsA (gB bMin (gConsA (gVar 1) (gConsA (gC (.int 2)) gNilA))) gNilA)) (gSetIx 2 (gVar 3) (gMod (gFdiv (gFn 2 f__law_cell_at (gConsA (gVar 0) (gConsA (gAdd (gC (.int 1)) (gVar 3)) gNilA))) (gC (.int 16))) (gC (.int 21))))) gNext
      [some (scr ns), some (.int m), some (.list (ts0.map PyData.int)), none, some (.int (cell ns 1))] = .nx [some (scr ns), some (.int m), some (.list (ts0.map PyData.int)), none, some (.int (cell ns 1))] := by simp [h9]
    exact ⟨ts2, by simp [c0, c1, hm, t1, hif, h6, -gIfS_ap], h7, h8⟩
end K11

set_option Elab.async false
set_option linter.all false
set_option maxRecDepth 100000
/-! The greatest gain. -/
namespace K11
open PySem PySem.Spec L2 Fn
/-- o is the greatest gain, none where nothing meets -/
structure Best (ts gs : List Int) (rs : List PyData) (o : Option Int) : Prop where
  at_ : ∀ k, o = some k → ∃ y : List Int, y.length = ts.length ∧ RowsM rs y ∧ InB (whole ts) y ∧ dot gs y = k
  most : ∀ x : List Int, x.length = ts.length → RowsM rs x → InB (whole ts) x → ∃ k, o = some k ∧ dot gs x ≤ k
theorem GSpec.pt {ts gs : List Int} {rs : List PyData} {b' : Option (List Int)} {T : PyData} (G : GSpec ts gs rs (whole ts) none b' T) {y : List Int} (e : b' = some y) : y.length = ts.length ∧ RowsM rs y ∧ InB (whole ts) y := by
  refine ⟨G.len y e, ?_⟩
  rcases G.src with z | ⟨x, z, q⟩
  · rw [e] at z; cases z
  · rw [e] at z; cases z; exact q
theorem GSpec.best {ts gs : List Int} {rs : List PyData} {b' : Option (List Int)} {T : PyData} (G : GSpec ts gs rs (whole ts) none b' T) : Best ts gs rs (b'.map (dot gs)) where
  at_ := fun k e => by
    cases b' with
    | none => cases e
    | some y =>
      cases e
      obtain ⟨a, b, c⟩ := G.pt rfl
      exact ⟨y, a, b, c, rfl⟩
  most := fun x a b c => by
    obtain ⟨y, e, q⟩ := G.all x a b c
    subst e
    exact ⟨_, rfl, q⟩
theorem gSeq_nx {g h : Rho → R} {ρ ρ' : Rho} (e : g ρ = .nx ρ') : gSeq g h ρ = h ρ' := by
  show (g ρ).seq h = _
  rw [e]; rfl
theorem gSeq_rt {g h : Rho → R} {ρ : Rho} {z : PyData} (e : g ρ = .rt z) : gSeq g h ρ = .rt z := by
  show (g ρ).seq h = _
  rw [e]; rfl
theorem lnD_nice (x : List Int) : Nice 1 (lnD x) := nice_list nice_mapI
theorem nil_nice : Nice 1 (.list []) := lnD_nice []
theorem ix0 {y : List Int} {T : PyData} : dIx (.tuple [bestD (some y), T]) (.int 0) = .ok (.list (y.map PyData.int)) := rfl
theorem whole_int (k : Int) : f__law_whole [.int k] = .ok (.bool true) := rfl
theorem mk_ok {ts gs : List Int} {rs : List PyData} (p : ProbOk ts gs rs) : makeP f_is_problem [.list (ts.map PyData.int), .list rs, .list (gs.map PyData.int)] = .ok (pD ts gs rs) := by
  have e := prob_good p.n1 p.n3 p.t p.r6 p.r p.g p.gb
  unfold makeP
  rw [e]; rfl
end K11

set_option Elab.async false
set_option linter.all false
set_option maxRecDepth 100000
/-! The law of the two halves. -/
namespace K11
open PySem PySem.Spec L2 Fn
def optI : Option Int → PyData
  | none => .none
  | some k => .int k
section
variable {ts gs : List Int} {rs : List PyData} {y : List Int} {b' : Option (List Int)} {T : PyData}
abbrev G0 (ts gs : List Int) (rs : List PyData) (x : Option PyData) : Rho := [some (.list (ts.map PyData.int)), some (.list rs), some (.list (gs.map PyData.int)), x, none]
theorem gain_of_ok (p : ProbOk ts gs rs) : ∃ o : Option Int, f__law_gain_of [.list (ts.map PyData.int), .list rs, .list (gs.map PyData.int)] = .ok (optI o) ∧ Best ts gs rs o := by
  obtain ⟨b', T, hs, G⟩ := solved_ok p
  refine ⟨b'.map (dot gs), ?_, G.best⟩
  have h3 := p.n3
  have mk := mk_ok p
  have e0 : rho0 5 [PyData.list (ts.map PyData.int), .list rs, .list (gs.map PyData.int)] = G0 ts gs rs none := rfl
  have s1 : g__law_gain_of_1 (G0 ts gs rs none) = .nx (G0 ts gs rs (some (.tuple [bestD b', T]))) := by
    unfold g__law_gain_of_1
    simp -implicitDefEqProofs [mk, hs]
  have s2 : g__law_gain_of_2 (G0 ts gs rs (some (.tuple [bestD b', T]))) = .nx (G0 ts gs rs (some (.tuple [bestD b', T]))) := by
    unfold g__law_gain_of_2
    have n2 : dNe (.int 2) (.int 2) = .ok (.bool false) := rfl
    simp -implicitDefEqProofs [n2]
  show noEx (fnG 5 g__law_gain_of _) = _
  unfold fnG
  rw [e0]
  unfold g__law_gain_of
  rw [gSeq_nx s1, gSeq_nx s2]
  cases b' with
  | none =>
    have s3 : g__law_gain_of_3 (G0 ts gs rs (some (.tuple [bestD none, T]))) = .rt .none := by
      unfold g__law_gain_of_3
      have i0 : dIx (.tuple [bestD none, T]) (.int 0) = .ok .none := rfl
      have n1 : dIsN .none .none = .ok (.bool true) := rfl
      simp -implicitDefEqProofs [i0, n1]
    rw [gSeq_rt s3]; rfl
  | some y =>
    obtain ⟨hy, hr, hb⟩ := G.pt rfl
    have s3 : g__law_gain_of_3 (G0 ts gs rs (some (.tuple [bestD (some y), T]))) = .nx (G0 ts gs rs (some (.tuple [bestD (some y), T]))) := by
      unfold g__law_gain_of_3
      have n1 : dIsN (.list (y.map PyData.int)) .none = .ok (.bool false) := rfl
      simp -implicitDefEqProofs [ix0, n1]
    have s4 : g__law_gain_of_4 (G0 ts gs rs (some (.tuple [bestD (some y), T]))) = .nx (G0 ts gs rs (some (.tuple [bestD (some y), T]))) := by
      unfold g__law_gain_of_4
      simp -implicitDefEqProofs [ix0, hy]
    have s5 : g__law_gain_of_5 (G0 ts gs rs (some (.tuple [bestD (some y), T]))) = .nx (G0 ts gs rs (some (.tuple [bestD (some y), T]))) := by
      have m := lmeets_ok (ps := y) hy h3 p.r6 p.r
      rw [(meetB_iff hy).mpr ⟨hr, hb⟩] at m
      have hc := comp_filter (vs := [4]) (i := 4) (T := (gNotT (gTru (gFn 1 f__law_whole (gConsA (gVar 4) gNilA))))) (E := gVar 4) (gi := (gItA (gIx (gVar 3) (gC (.int 0))))) (ρ := G0 ts gs rs (some (.tuple [bestD (some y), T]))) (ds := y.map PyData.int) (fun _ => false) id
        (by simp -implicitDefEqProofs [ix0]) (by rw [List.length_map]; exact lim_ge (by omega)) (fun d hd => by
          obtain ⟨k, _, rfl⟩ := List.mem_map.mp hd
          simp -implicitDefEqProofs [whole_int]) (fun d hd z => by cases z)
      rw [show (y.map PyData.int).filter (fun _ => false) = [] from List.filter_eq_nil_iff.mpr fun _ _ z => by cases z] at hc
      have hc : _ = O.ok (PyData.list []) := hc
      have n1 : dNe (.list []) (.list []) = .ok (.bool false) := dNe_self nil_nice (by decide)
      unfold g__law_gain_of_5
      simp -implicitDefEqProofs [hc, n1, ix0, m, -gComp_ap]
    have s6 : g__law_gain_of_6 (G0 ts gs rs (some (.tuple [bestD (some y), T]))) = .rt (.int (dot gs y)) := by
      have e1 := lsum_ok (ks := gs) (ps := y) (.inl rfl) (by have := p.g; omega) (by omega) p.gb
      unfold g__law_gain_of_6
      simp -implicitDefEqProofs [ix0, e1]
    rw [gSeq_nx s3, gSeq_nx s4, gSeq_nx s5, s6]; rfl
end
/-! ### rows more -/
section
variable {ts gs : List Int} {rs : List PyData} {y x : List Int} {n : Nat}
theorem rowsM_app {r : PyData} : RowsM (rs ++ [r]) x ↔ RowsM rs x ∧ rowB x r = true := by
  unfold RowsM
  constructor
  · intro h
    exact ⟨fun q hq => h q (List.mem_append_left _ hq), h r (List.mem_append_right _ List.mem_cons_self)⟩
  · intro ⟨h, h2⟩ q hq
    rcases List.mem_append.mp hq with z | z
    · exact h q z
    · rw [List.mem_singleton.mp z]; exact h2
def halfD (u n : Nat) (w : Str) (a : Int) : PyData := .tuple [.tuple ((onlyL u 1 n).map PyData.int), .str w, .int a]
theorem half_row {u : Nat} {w : Str} {a : Int} (hw : w = "most" ∨ w = "least") (ha : bd (-2000) 2000 a) : IsRow n (halfD u n w a) := by
  obtain ⟨o1, o2⟩ := onlyL_good u (z := 1) n ⟨by decide, by decide⟩
  exact ⟨_, w, a, rfl, o1, o2, hw, ha⟩
theorem half_dot {u : Nat} (hu : u < n) (h3 : n ≤ 3) : dot (onlyL u 1 n) x = x.getD u 0 := by
  have l : (onlyL u 1 n).length = n := (onlyL_good u (z := 1) n ⟨by decide, by decide⟩).1
  rw [dot_sx (by omega)]
  have := Sx.dot_unit hu h3 1 (xf x)
  rw [show Sx.dot (xf (onlyL u 1 n)) (xf x) = 1 * xf x u from this, Int.one_mul]
  rfl
theorem half_most {u : Nat} {a : Int} (hu : u < n) (h3 : n ≤ 3) : rowB x (halfD u n "most" a) = true ↔ x.getD u 0 ≤ a := by
  unfold halfD
  rw [rowB_ks, if_pos rfl, half_dot hu h3, decide_eq_true_iff]
theorem half_least {u : Nat} {a : Int} (hu : u < n) (h3 : n ≤ 3) : rowB x (halfD u n "least" a) = true ↔ a ≤ x.getD u 0 := by
  unfold halfD
  rw [rowB_ks, if_neg lne, half_dot hu h3, decide_eq_true_iff]
theorem prob_more {r : PyData} (p : ProbOk ts gs rs) (h5 : rs.length ≤ 5) (hr : IsRow ts.length r) : ProbOk ts gs (rs ++ [r]) := ⟨p.n1, p.n3, p.t, p.g, p.gb, by rw [List.length_append, List.length_singleton]; omega, fun q hq => by
  rcases List.mem_append.mp hq with z | z
  · exact p.r q z
  · rw [List.mem_singleton.mp z]; exact hr⟩
theorem halves {u : Nat} {a : Int} {o o1 o2 : Option Int} (hu : u < ts.length) (h3 : ts.length ≤ 3) (b : Best ts gs rs o) (b1 : Best ts gs (rs ++ [halfD u ts.length "most" a]) o1) (b2 : Best ts gs (rs ++ [halfD u ts.length "least" (a + 1)]) o2) :
    (∀ k, o1 = some k → ∃ m, o = some m ∧ k ≤ m) ∧ (∀ k, o2 = some k → ∃ m, o = some m ∧ k ≤ m) ∧ ∀ m, o = some m → (∃ k, o1 = some k ∧ m ≤ k) ∨ ∃ k, o2 = some k ∧ m ≤ k := by
  refine ⟨fun k e => ?_, fun k e => ?_, fun m e => ?_⟩
  · obtain ⟨y, q1, q2, q3, q4⟩ := b1.at_ k e
    obtain ⟨m, e1, e2⟩ := b.most y q1 (rowsM_app.mp q2).1 q3
    exact ⟨m, e1, by omega⟩
  · obtain ⟨y, q1, q2, q3, q4⟩ := b2.at_ k e
    obtain ⟨m, e1, e2⟩ := b.most y q1 (rowsM_app.mp q2).1 q3
    exact ⟨m, e1, by omega⟩
  · obtain ⟨y, q1, q2, q3, q4⟩ := b.at_ m e
    by_cases z : y.getD u 0 ≤ a
    · obtain ⟨k, e1, e2⟩ := b1.most y q1 (rowsM_app.mpr ⟨q2, (half_most hu h3).mpr z⟩) q3
      exact .inl ⟨k, e1, by omega⟩
    · obtain ⟨k, e1, e2⟩ := b2.most y q1 (rowsM_app.mpr ⟨q2, (half_least hu h3).mpr (by omega)⟩) q3
      exact .inr ⟨k, e1, by omega⟩
end
end K11

set_option Elab.async false
set_option linter.all false
set_option maxRecDepth 100000
/-! The law of the two halves, step by step. -/
namespace K11
open PySem PySem.Spec L2 Fn
theorem cut5 {rs : List PyData} : cutL rs none (some 5) = rs.take 5 := by
  unfold cutL
  rw [show HT.sIx rs.length 0 none = 0 from rfl, show HT.sIx rs.length rs.length (some 5) = min 5 rs.length from HT.sIx_nat _ _ 5]
  rw [List.drop_zero, Nat.sub_zero]
  by_cases h : 5 ≤ rs.length
  · rw [Nat.min_eq_left h]
  · rw [Nat.min_eq_right (by omega), List.take_of_length_le (Nat.le_refl _), List.take_of_length_le (by omega)]
theorem ns_ (o : Option Int) : dEq (optI o) (.str "") = .ok (.bool false) := by
  cases o with
  | none => rfl
  | some k => rfl
theorem notN (o : Option Int) : dNotN (optI o) .none = .ok (.bool o.isSome) := by
  cases o with
  | none => rfl
  | some k => rfl
section
variable {ns ts gs : List Int} {rs : List PyData} {c u a : Int} {o1 o2 o : Option Int} {n : Nat}
abbrev Q (ns : List Int) (a1 a2 a3 a4 a5 a6 a7 a9 a10 a11 a12 : Option PyData) : Rho := [some (scr ns), a1, a2, a3, a4, a5, a6, a7, none, a9, a10, a11, a12, none]
abbrev ls (ts : List Int) : Option PyData := some (.list (ts.map PyData.int))
theorem q1 (h : f__law_tops [scr ns] = .ok (.list (ts.map PyData.int))) : gl_1 (Q ns none none none none none none none none none none none) = .nx (Q ns (ls ts) none none none none none none none none none none) := by
  unfold gl_1
  simp -implicitDefEqProofs [h]
theorem q2 (h : f__law_rows [scr ns] = .ok (.list rs)) : gl_2 (Q ns (ls ts) none none none none none none none none none none) = .nx (Q ns (ls ts) (some (.list (rs.take 5))) none none none none none none none none none) := by
  unfold gl_2
  have s : dSl (.list rs) none (some 5) = .ok (.list (rs.take 5)) := by rw [← cut5]; rfl
  simp -implicitDefEqProofs [h, s]
theorem q3 (h : f__law_gain [scr ns] = .ok (.list (gs.map PyData.int))) : gl_3 (Q ns (ls ts) (some (.list rs)) none none none none none none none none none) = .nx (Q ns (ls ts) (some (.list rs)) (ls gs) none none none none none none none none) := by
  unfold gl_3
  simp -implicitDefEqProofs [h]
theorem q4 : gl_4 (Q ns (ls ts) (some (.list rs)) (ls gs) none none none none none none none none) = .nx (Q ns (ls ts) (some (.list rs)) (ls gs) (some (.int (cell ns 31 % 10 ^ 9))) none none none none none none none) := by
  unfold gl_4
  have c1 := cell_ok ns 31 (by decide)
  have p : dPow (.int 10) (.int 9) = .ok (.int (10 ^ 9)) := rfl
  simp -implicitDefEqProofs [c1, p]
theorem q5 (h1 : 1 ≤ ts.length) : gl_5 (Q ns (ls ts) (some (.list rs)) (ls gs) (some (.int c)) none none none none none none none) = .nx (Q ns (ls ts) (some (.list rs)) (ls gs) (some (.int c)) (some (.int (c % ts.length))) none none none none none none) := by
  unfold gl_5
  simp -implicitDefEqProofs [show 0 < ts.length by omega]
theorem q6 {u : Nat} (hu : u < ts.length) (ht : ∀ t ∈ ts, bd 0 20 t) : ∃ a : Int, gl_6 (Q ns (ls ts) (some (.list rs)) (ls gs) (some (.int c)) (some (.int (u : Nat))) none none none none none none) = .nx (Q ns (ls ts) (some (.list rs)) (ls gs) (some (.int c)) (some (.int (u : Nat))) (some (.int a)) none none none none none) ∧ bd (-1) 21 a := by
  obtain ⟨t0, t20⟩ := ht _ (Sx.getD_mem (x := 0) hu)
  have i1 : dIx (.list (ts.map PyData.int)) (.int (u : Nat)) = .ok (.int (ts.getD u 0)) := dIx_l _ _ (by
    rw [atI_map, atI_nat (x := ts.getD u 0) (by rw [getD_eq hu, List.getElem?_eq_getElem hu])]
    rfl)
  have l3 : Nat.log2 3 < 9000 := by decide
  have e1 := Int.emod_nonneg (c / 3) (show ts.getD u 0 + 2 ≠ 0 by omega)
  have e2 := Int.emod_lt_of_pos (c / 3) (show 0 < ts.getD u 0 + 2 by omega)
  refine ⟨c / 3 % (ts.getD u 0 + 2) - 1, ?_, ?_⟩
  · unfold gl_6
    simp -implicitDefEqProofs [-List.getD_eq_getElem?_getD, i1, l3, show 0 < ts.getD u 0 + 2 by omega]
  · constructor <;> omega
theorem q7 {u : Nat} (h3 : ts.length ≤ 3) : gl_7 (Q ns (ls ts) (some (.list rs)) (ls gs) (some (.int c)) (some (.int (u : Nat))) (some (.int a)) none none none none none) = .nx (Q ns (ls ts) (some (.list rs)) (ls gs) (some (.int c)) (some (.int (u : Nat))) (some (.int a)) (ls (onlyL u 1 ts.length)) none none none none) := by
  have hc := comp_of (vs := [8]) (f := aName 8) (t := gYes) (e := (gB bInt (gConsA (gEq (gVar 8) (gVar 5)) gNilA))) (gi := (gRng1 (gConsA (gB bLen (gConsA (gVar 1) gNilA)) gNilA))) (ρ := Q ns (ls ts) (some (.list rs)) (ls gs) (some (.int c)) (some (.int (u : Nat))) (some (.int a)) none none none none none) (List.range ts.length) (fun (p : Nat) => PyData.int p) (fun p => .int (if p = u then 1 else 0)) (by
      have r := rng1_nat (m := ts.length) (by omega)
      have e : gRng1 (gConsA (gB bLen (gConsA (gVar 1) gNilA)) gNilA) (Q ns (ls ts) (some (.list rs)) (ls gs) (some (.int c)) (some (.int (u : Nat))) (some (.int a)) none none none none none) = rng1 [.int ts.length] := by
        simp -implicitDefEqProofs
      rw [e, r, rangeD_int]) (by rw [List.length_range]; exact lim_ge (by omega)) fun p hp => ⟨_, rfl, rfl, by
      by_cases z : p = u
      · subst z
        have b1 : bInt [.bool true] = .ok (.int 1) := rfl
        simp -implicitDefEqProofs [b1]
      · have z' : ¬ (p : Int) = (u : Int) := by omega
        have b1 : bInt [.bool false] = .ok (.int 0) := rfl
        simp -implicitDefEqProofs [b1, z, z']⟩
  have e : (List.range ts.length).map (fun p => PyData.int (if p = u then 1 else 0)) = (onlyL u 1 ts.length).map PyData.int := by
    unfold onlyL
    rw [List.map_map]
    rfl
  rw [e] at hc
  have hc : c_law_1 _ = _ := hc
  unfold gl_7
  rw [gSet_ap, hc]
  rfl
theorem app1 {r : PyData} (h : rs.length ≤ 6) : dAdd (.list rs) (.list [r]) = .ok (.list (rs ++ [r])) := by
  show (if rs.length + 1 ≤ lim then _ else _) = _
  rw [if_pos (lim_ge (by omega))]
theorem tupD (xs : List PyData) : bTup [.list xs] = .ok (.tuple xs) := rfl
theorem q8 {u : Nat} (h : rs.length ≤ 6) (hg : f__law_gain_of [.list (ts.map PyData.int), .list (rs ++ [halfD u n "most" a]), .list (gs.map PyData.int)] = .ok (optI o1)) :
    gl_8 (Q ns (ls ts) (some (.list rs)) (ls gs) (some (.int c)) (some (.int (u : Nat))) (some (.int a)) (ls (onlyL u 1 n)) none none none none) = .nx (Q ns (ls ts) (some (.list rs)) (ls gs) (some (.int c)) (some (.int (u : Nat))) (some (.int a)) (ls (onlyL u 1 n)) (some (optI o1)) none none none) := by
  unfold gl_8
  unfold halfD at hg
  simp -implicitDefEqProofs [app1 h, hg, tupD]
theorem q9 {u : Nat} {o1 : Option PyData} (h : rs.length ≤ 6) (hg : f__law_gain_of [.list (ts.map PyData.int), .list (rs ++ [halfD u n "least" (a + 1)]), .list (gs.map PyData.int)] = .ok (optI o2)) :
    gl_9 (Q ns (ls ts) (some (.list rs)) (ls gs) (some (.int c)) (some (.int (u : Nat))) (some (.int a)) (ls (onlyL u 1 n)) o1 none none none) = .nx (Q ns (ls ts) (some (.list rs)) (ls gs) (some (.int c)) (some (.int (u : Nat))) (some (.int a)) (ls (onlyL u 1 n)) o1 (some (optI o2)) none none) := by
  unfold gl_9
  unfold halfD at hg
  simp -implicitDefEqProofs [app1 h, hg, tupD]
theorem q10 {a5 a6 a7 a4 a9 a10 : Option PyData} (hg : f__law_gain_of [.list (ts.map PyData.int), .list rs, .list (gs.map PyData.int)] = .ok (optI o)) :
    gl_10 (Q ns (ls ts) (some (.list rs)) (ls gs) a4 a5 a6 a7 a9 a10 none none) = .nx (Q ns (ls ts) (some (.list rs)) (ls gs) a4 a5 a6 a7 a9 a10 (some (optI o)) none) := by
  unfold gl_10
  simp -implicitDefEqProofs [hg]
abbrev E (ns : List Int) (a1 a2 a3 a4 a5 a6 a7 : Option PyData) (o1 o2 o : Option Int) (x : Option PyData) : Rho := Q ns a1 a2 a3 a4 a5 a6 a7 (some (optI o1)) (some (optI o2)) (some (optI o)) x
variable {a1 a2 a3 a4 a5 a6 a7 : Option PyData}
theorem q11 : gl_11 (E ns a1 a2 a3 a4 a5 a6 a7 o1 o2 o none) = .nx (E ns a1 a2 a3 a4 a5 a6 a7 o1 o2 o none) := by
  unfold gl_11
  simp -implicitDefEqProofs [ns_]
def parts (o1 o2 : Option Int) : List Int := ([o1, o2].filterMap id)
theorem q12 : gl_12 (E ns a1 a2 a3 a4 a5 a6 a7 o1 o2 o none) = .nx (E ns a1 a2 a3 a4 a5 a6 a7 o1 o2 o (ls (parts o1 o2))) := by
  have hc := comp_filter (vs := [13]) (i := 13) (T := (gBl (gNotN (gVar 13) (gC .none)))) (E := gVar 13) (gi := (gItA (gLst (gConsA (gVar 9) (gConsA (gVar 10) gNilA))))) (ρ := E ns a1 a2 a3 a4 a5 a6 a7 o1 o2 o none) (ds := [optI o1, optI o2]) (fun d => match d with | .none => false | _ => true) id
    (by simp -implicitDefEqProofs) (lim_ge (by simp)) (fun d hd => by
      rcases List.mem_cons.mp hd with rfl | hd
      · simp -implicitDefEqProofs [notN]
        cases o1 <;> rfl
      · rcases List.mem_cons.mp hd with rfl | hd
        · simp -implicitDefEqProofs [notN]
          cases o2 <;> rfl
        · cases hd) (fun d hd _ => rfl)
  have hc : c_law_2 _ = _ := hc
  unfold gl_12
  rw [gSet_ap, hc]
  cases o1 <;> cases o2 <;> rfl
theorem eqn (x : List Int) : dEq (.list (x.map PyData.int)) (.list []) = .ok (.bool (decide (x = []))) := by
  unfold dEq
  rw [(lnD_nice x).okEq (by decide), nil_nice.okEq (by decide), Bool.and_self, Bool.or_true, if_pos rfl]
  cases x with
  | nil => rfl
  | cons a g => rfl
theorem last {o1 o2 o : Option Int} (h1 : ∀ k, o1 = some k → ∃ m, o = some m ∧ k ≤ m) (h2 : ∀ k, o2 = some k → ∃ m, o = some m ∧ k ≤ m) (h3 : ∀ m, o = some m → (∃ k, o1 = some k ∧ m ≤ k) ∨ ∃ k, o2 = some k ∧ m ≤ k) :
    gSeq gl_13 gl_14 (E ns a1 a2 a3 a4 a5 a6 a7 o1 o2 o (ls (parts o1 o2))) = .rt (.bool true) := by
  have e := eqn (parts o1 o2)
  by_cases z : parts o1 o2 = []
  · have o0 : o = none := by
      cases o with
      | none => rfl
      | some m =>
        rcases h3 m rfl with ⟨k, e, _⟩ | ⟨k, e, _⟩
        · subst e
          cases o2 <;> cases z
        · subst e
          cases o1 <;> cases z
    subst o0
    rw [decide_eq_true z] at e
    have n1 : dIsN (optI none) .none = .ok (.bool true) := rfl
    refine gSeq_rt ?_
    unfold gl_13
    simp -implicitDefEqProofs [e, n1]
  · rw [decide_eq_false z] at e
    have r : gl_13 (E ns a1 a2 a3 a4 a5 a6 a7 o1 o2 o (ls (parts o1 o2))) = .nx (E ns a1 a2 a3 a4 a5 a6 a7 o1 o2 o (ls (parts o1 o2))) := by
      unfold gl_13
      simp -implicitDefEqProofs [e]
    rw [gSeq_nx r]
    obtain ⟨m, hm, hx⟩ : ∃ m, o = some m ∧ bMax [.list ((parts o1 o2).map PyData.int)] = .ok (.int m) := by
      have mx : ∀ (x : Int) (xs : List Int), bMax [.list ((x :: xs).map PyData.int)] = .ok (.int (maxL x xs)) := fun x xs => by
        unfold bMax
        dsimp only
        rw [Fn.intsD_map]
      cases o1 with
      | none =>
        cases o2 with
        | none => exact absurd rfl z
        | some k2 =>
          obtain ⟨m, e, l⟩ := h2 k2 rfl
          subst e
          refine ⟨m, rfl, ?_⟩
          rcases h3 m rfl with ⟨k, e, _⟩ | ⟨k, e, l2⟩
          · cases e
          · cases e
            have : k2 = m := by omega
            rw [← this]; exact mx k2 []
      | some k1 =>
        obtain ⟨m, e, l⟩ := h1 k1 rfl
        subst e
        refine ⟨m, rfl, ?_⟩
        cases o2 with
        | none =>
          rcases h3 m rfl with ⟨k, e, l2⟩ | ⟨k, e, l2⟩
          · cases e
            have : k1 = m := by omega
            rw [← this]; exact mx k1 []
          · cases e
        | some k2 =>
          obtain ⟨m', e, l'⟩ := h2 k2 rfl
          cases e
          refine (mx k1 [k2]).trans ?_
          congr 2
          show max k1 k2 = m
          rcases h3 m rfl with ⟨k, e, l2⟩ | ⟨k, e, l2⟩
          · cases e; omega
          · cases e; omega
    subst hm
    have n1 : dNotN (optI (some m)) .none = .ok (.bool true) := rfl
    have e1 : dEq (optI (some m)) (.int m) = .ok (.bool true) := by
      show dEq (.int m) (.int m) = _
      simp
    unfold gl_14
    simp -implicitDefEqProofs [n1, hx, e1]
end
theorem law_true (ns : List Int) (_ : ns.length ≤ 63) : fnG lawN.length g_law [D.ro (ns.map PyData.int)] = .ok (.bool true) := by
  obtain ⟨ts, a1, a2, a3⟩ := tops_ok ns
  obtain ⟨rs0, b1, b2, b3⟩ := rows_ok ns
  obtain ⟨gs, c1, c2, c3⟩ := gain_ok ns
  obtain ⟨m1, m3⟩ := many_bd ns
  rw [← a2] at m1 m3 b3 c2
  have hr5 : (rs0.take 5).length ≤ 5 := by rw [List.length_take]; omega
  have p : ProbOk ts gs (rs0.take 5) := ⟨m1, m3, a3, c2, c3, by omega, fun r hr => b3 r (List.mem_of_mem_take hr)⟩
  obtain ⟨u, hu, eu⟩ : ∃ u : Nat, u < ts.length ∧ cell ns 31 % 10 ^ 9 % (ts.length : Int) = (u : Nat) := by
    have e1 := Int.emod_nonneg (cell ns 31 % 10 ^ 9) (show (ts.length : Int) ≠ 0 by omega)
    have e2 := Int.emod_lt_of_pos (cell ns 31 % 10 ^ 9) (show 0 < (ts.length : Int) by omega)
    exact ⟨(cell ns 31 % 10 ^ 9 % (ts.length : Int)).toNat, by omega, by omega⟩
  obtain ⟨a, d1, d2, d3⟩ := q6 (ns := ns) (ts := ts) (gs := gs) (rs := rs0.take 5) (c := cell ns 31 % 10 ^ 9) hu a3
  obtain ⟨o1, e1, f1⟩ := gain_of_ok (prob_more p hr5 (half_row (n := ts.length) (u := u) (w := "most") (a := a) (.inl rfl) ⟨by omega, by omega⟩))
  obtain ⟨o2, e2, f2⟩ := gain_of_ok (prob_more p hr5 (half_row (n := ts.length) (u := u) (w := "least") (a := a + 1) (.inr rfl) ⟨by omega, by omega⟩))
  obtain ⟨o, e3, f3⟩ := gain_of_ok p
  obtain ⟨h1, h2, h3⟩ := halves hu m3 f3 f1 f2
  have h : g_law (Q ns none none none none none none none none none none none) = .rt (.bool true) := by
    have h5 := q5 (ns := ns) (ts := ts) (gs := gs) (rs := rs0.take 5) (c := cell ns 31 % 10 ^ 9) m1
    rw [eu] at h5
    unfold g_law
    rw [gSeq_nx (q1 a1), gSeq_nx (q2 b1), gSeq_nx (q3 c1), gSeq_nx q4, gSeq_nx h5, gSeq_nx d1, gSeq_nx (q7 m3), gSeq_nx (q8 (by omega) e1), gSeq_nx (q9 (by omega) e2), gSeq_nx (q10 e3), gSeq_nx q11, gSeq_nx q12]
    exact last h1 h2 h3
  unfold fnG
  show outR (g_law (Q ns none none none none none none none none none none none)) = _
  rw [h]
  rfl
end K11

set_option Elab.async false
set_option linter.all false
set_option maxRecDepth 100000
set_option maxHeartbeats 0
namespace K11
open PySem PySem.Spec L2 Fn
theorem all_mk {l : PySem.W.OpenLaw} {w : World} {K : PySem.W.Frag} {h : Heap} {mg : Str → Option Value} {fa : Addr} (X : K.In h) (G : h.Ns mainGlobals mg) (hfa : mg "law" = some (.ref fa))
    {f0 : Addr} {od0 an0 : Option Addr} {sl0 : Array (Option Value)} {oc0 kV0 dc0 pm0 cd0 ct0 : Value}
    {f1 : Addr} {od1 an1 : Option Addr} {sl1 : Array (Option Value)} {oc1 kV1 dc1 pm1 cd1 ct1 : Value}
    {f2 : Addr} {od2 an2 : Option Addr} {sl2 : Array (Option Value)} {oc2 kV2 dc2 pm2 cd2 ct2 : Value}
    {f3 : Addr} {od3 an3 : Option Addr} {sl3 : Array (Option Value)} {oc3 kV3 dc3 pm3 cd3 ct3 : Value}
    {f4 : Addr} {od4 an4 : Option Addr} {sl4 : Array (Option Value)} {oc4 kV4 dc4 pm4 cd4 ct4 : Value}
    {f5 : Addr} {od5 an5 : Option Addr} {sl5 : Array (Option Value)} {oc5 kV5 dc5 pm5 cd5 ct5 : Value}
    {f6 : Addr} {od6 an6 : Option Addr} {sl6 : Array (Option Value)} {oc6 kV6 dc6 pm6 cd6 ct6 : Value}
    {f7 : Addr} {od7 an7 : Option Addr} {sl7 : Array (Option Value)} {oc7 kV7 dc7 pm7 cd7 ct7 : Value}
    {f8 : Addr} {od8 an8 : Option Addr} {sl8 : Array (Option Value)} {oc8 kV8 dc8 pm8 cd8 ct8 : Value}
    {f9 : Addr} {od9 an9 : Option Addr} {sl9 : Array (Option Value)} {oc9 kV9 dc9 pm9 cd9 ct9 : Value}
    {f10 : Addr} {od10 an10 : Option Addr} {sl10 : Array (Option Value)} {oc10 kV10 dc10 pm10 cd10 ct10 : Value}
    {f11 : Addr} {od11 an11 : Option Addr} {sl11 : Array (Option Value)} {oc11 kV11 dc11 pm11 cd11 ct11 : Value}
    {f12 : Addr} {od12 an12 : Option Addr} {sl12 : Array (Option Value)} {oc12 kV12 dc12 pm12 cd12 ct12 : Value}
    {f13 : Addr} {od13 an13 : Option Addr} {sl13 : Array (Option Value)} {oc13 kV13 dc13 pm13 cd13 ct13 : Value}
    {f14 : Addr} {od14 an14 : Option Addr} {sl14 : Array (Option Value)} {oc14 kV14 dc14 pm14 cd14 ct14 : Value}
    {f15 : Addr} {od15 an15 : Option Addr} {sl15 : Array (Option Value)} {oc15 kV15 dc15 pm15 cd15 ct15 : Value}
    {f16 : Addr} {od16 an16 : Option Addr} {sl16 : Array (Option Value)} {oc16 kV16 dc16 pm16 cd16 ct16 : Value}
    {f17 : Addr} {od17 an17 : Option Addr} {sl17 : Array (Option Value)} {oc17 kV17 dc17 pm17 cd17 ct17 : Value}
    {f18 : Addr} {od18 an18 : Option Addr} {sl18 : Array (Option Value)} {oc18 kV18 dc18 pm18 cd18 ct18 : Value}
    {f19 : Addr} {od19 an19 : Option Addr} {sl19 : Array (Option Value)} {oc19 kV19 dc19 pm19 cd19 ct19 : Value}
    {f20 : Addr} {od20 an20 : Option Addr} {sl20 : Array (Option Value)} {oc20 kV20 dc20 pm20 cd20 ct20 : Value}
    {f21 : Addr} {od21 an21 : Option Addr} {sl21 : Array (Option Value)} {oc21 kV21 dc21 pm21 cd21 ct21 : Value}
    {f22 : Addr} {od22 an22 : Option Addr} {sl22 : Array (Option Value)} {oc22 kV22 dc22 pm22 cd22 ct22 : Value}
    {f23 : Addr} {od23 an23 : Option Addr} {sl23 : Array (Option Value)} {oc23 kV23 dc23 pm23 cd23 ct23 : Value}
    {f24 : Addr} {od24 an24 : Option Addr} {sl24 : Array (Option Value)} {oc24 kV24 dc24 pm24 cd24 ct24 : Value}
    {f25 : Addr} {od25 an25 : Option Addr} {sl25 : Array (Option Value)} {oc25 kV25 dc25 pm25 cd25 ct25 : Value}
    {f26 : Addr} {od26 an26 : Option Addr} {sl26 : Array (Option Value)} {oc26 kV26 dc26 pm26 cd26 ct26 : Value}
    {f27 : Addr} {od27 an27 : Option Addr} {sl27 : Array (Option Value)} {oc27 kV27 dc27 pm27 cd27 ct27 : Value}
    {f28 : Addr} {od28 an28 : Option Addr} {sl28 : Array (Option Value)} {oc28 kV28 dc28 pm28 cd28 ct28 : Value}
    {f29 : Addr} {od29 an29 : Option Addr} {sl29 : Array (Option Value)} {oc29 kV29 dc29 pm29 cd29 ct29 : Value}
    {f30 : Addr} {od30 an30 : Option Addr} {sl30 : Array (Option Value)} {oc30 kV30 dc30 pm30 cd30 ct30 : Value}
    {f31 : Addr} {od31 an31 : Option Addr} {sl31 : Array (Option Value)} {oc31 kV31 dc31 pm31 cd31 ct31 : Value}
    {f32 : Addr} {od32 an32 : Option Addr} {sl32 : Array (Option Value)} {oc32 kV32 dc32 pm32 cd32 ct32 : Value}
    {f33 : Addr} {od33 an33 : Option Addr} {sl33 : Array (Option Value)} {oc33 kV33 dc33 pm33 cd33 ct33 : Value}
    {f34 : Addr} {od34 an34 : Option Addr} {sl34 : Array (Option Value)} {oc34 kV34 dc34 pm34 cd34 ct34 : Value}
    {f35 : Addr} {od35 an35 : Option Addr} {sl35 : Array (Option Value)} {oc35 kV35 dc35 pm35 cd35 ct35 : Value}
    {f36 : Addr} {od36 an36 : Option Addr} {sl36 : Array (Option Value)} {oc36 kV36 dc36 pm36 cd36 ct36 : Value}
    {f37 : Addr} {od37 an37 : Option Addr} {sl37 : Array (Option Value)} {oc37 kV37 dc37 pm37 cd37 ct37 : Value}
    {f38 : Addr} {od38 an38 : Option Addr} {sl38 : Array (Option Value)} {oc38 kV38 dc38 pm38 cd38 ct38 : Value}
    {f39 : Addr} {od39 an39 : Option Addr} {sl39 : Array (Option Value)} {oc39 kV39 dc39 pm39 cd39 ct39 : Value}
    {f40 : Addr} {od40 an40 : Option Addr} {sl40 : Array (Option Value)} {oc40 kV40 dc40 pm40 cd40 ct40 : Value}
    {f41 : Addr} {od41 an41 : Option Addr} {sl41 : Array (Option Value)} {oc41 kV41 dc41 pm41 cd41 ct41 : Value}
    {f42 : Addr} {od42 an42 : Option Addr} {sl42 : Array (Option Value)} {oc42 kV42 dc42 pm42 cd42 ct42 : Value}
    {f43 : Addr} {od43 an43 : Option Addr} {sl43 : Array (Option Value)} {oc43 kV43 dc43 pm43 cd43 ct43 : Value}
    {f44 : Addr} {od44 an44 : Option Addr} {sl44 : Array (Option Value)} {oc44 kV44 dc44 pm44 cd44 ct44 : Value}
    {f45 : Addr} {od45 an45 : Option Addr} {sl45 : Array (Option Value)} {oc45 kV45 dc45 pm45 cd45 ct45 : Value}
    {C fI : Addr} {odI anI : Option Addr} {slI : Array (Option Value)} {ocI kVI dcI pmI cdI ctI : Value}
    {C1 fJ : Addr} {odJ anJ : Option Addr} {slJ : Array (Option Value)} {ocJ kVJ dcJ pmJ cdJ ctJ : Value}
    {fM0 : Addr} {odM0 anM0 : Option Addr} {slM0 : Array (Option Value)} {ocM0 kVM0 dcM0 pmM0 ctM0 : Value} {cM0 PM0 : Addr} {xaM0 : Value} {xbM0 : Option Addr} {vsM0 : Array Value} {xsM0 : Array (Option Value)}
    {fM1 : Addr} {odM1 anM1 : Option Addr} {slM1 : Array (Option Value)} {ocM1 kVM1 dcM1 pmM1 ctM1 : Value} {cM1 PM1 : Addr} {xaM1 : Value} {xbM1 : Option Addr} {vsM1 : Array Value} {xsM1 : Array (Option Value)}
    {fM2 : Addr} {odM2 anM2 : Option Addr} {slM2 : Array (Option Value)} {ocM2 kVM2 dcM2 pmM2 ctM2 : Value} {cdM2 : Value}
    {fM3 : Addr} {odM3 anM3 : Option Addr} {slM3 : Array (Option Value)} {ocM3 kVM3 dcM3 pmM3 ctM3 : Value} {cdM3 : Value}
    {fM4 : Addr} {odM4 anM4 : Option Addr} {slM4 : Array (Option Value)} {ocM4 kVM4 dcM4 pmM4 ctM4 : Value} {cdM4 : Value}
    {fM5 : Addr} {odM5 anM5 : Option Addr} {slM5 : Array (Option Value)} {ocM5 kVM5 dcM5 pmM5 ctM5 : Value} {cdM5 : Value}
    {fM6 : Addr} {odM6 anM6 : Option Addr} {slM6 : Array (Option Value)} {ocM6 kVM6 dcM6 pmM6 ctM6 : Value} {cdM6 : Value}
    {x0 : Addr}
    {x1 : Addr}
    {x2 : Addr}
    {x3 : Addr}
    {x4 : Addr}
    {t_MOST_UNKNOWNS : _}
    {t_GREATEST_TOP : _}
    {t_MOST_ROWS : _}
    {t_GREATEST_NUMBER : _}
    {t_GREATEST_BOUND : _}
    (a0 : PySem.W.nsIn K mainGlobals "is_whole" = some (some (.ref f0)))
    (l0 : K.lookup f0 = some ⟨oc0, od0, .func (PySem.W.fnOf "is_whole" "is_whole" (defArgs (topS 8)) (defBody (topS 8)) (defScope (topS 8)) .none kV0 dc0 pm0 an0 cd0 ct0), sl0⟩)
    (c0 : PySem.W.codeIn K cd0 "is_whole" = true)
    (k0 : PySem.W.keepIn K (.ref f0) = true)
    (a1 : PySem.W.nsIn K mainGlobals "is_within" = some (some (.ref f1)))
    (l1 : K.lookup f1 = some ⟨oc1, od1, .func (PySem.W.fnOf "is_within" "is_within" (defArgs (topS 9)) (defBody (topS 9)) (defScope (topS 9)) .none kV1 dc1 pm1 an1 cd1 ct1), sl1⟩)
    (c1 : PySem.W.codeIn K cd1 "is_within" = true)
    (k1 : PySem.W.keepIn K (.ref f1) = true)
    (a2 : PySem.W.nsIn K mainGlobals "are_within" = some (some (.ref f2)))
    (l2 : K.lookup f2 = some ⟨oc2, od2, .func (PySem.W.fnOf "are_within" "are_within" (defArgs (topS 10)) (defBody (topS 10)) (defScope (topS 10)) .none kV2 dc2 pm2 an2 cd2 ct2), sl2⟩)
    (c2 : PySem.W.codeIn K cd2 "are_within" = true)
    (k2 : PySem.W.keepIn K (.ref f2) = true)
    (a3 : PySem.W.nsIn K mainGlobals "products_sum" = some (some (.ref f3)))
    (l3 : K.lookup f3 = some ⟨oc3, od3, .func (PySem.W.fnOf "products_sum" "products_sum" (defArgs (topS 11)) (defBody (topS 11)) (defScope (topS 11)) .none kV3 dc3 pm3 an3 cd3 ct3), sl3⟩)
    (c3 : PySem.W.codeIn K cd3 "products_sum" = true)
    (k3 : PySem.W.keepIn K (.ref f3) = true)
    (a4 : PySem.W.nsIn K mainGlobals "whole_box" = some (some (.ref f4)))
    (l4 : K.lookup f4 = some ⟨oc4, od4, .func (PySem.W.fnOf "whole_box" "whole_box" (defArgs (topS 13)) (defBody (topS 13)) (defScope (topS 13)) .none kV4 dc4 pm4 an4 cd4 ct4), sl4⟩)
    (c4 : PySem.W.codeIn K cd4 "whole_box" = true)
    (k4 : PySem.W.keepIn K (.ref f4) = true)
    (a5 : PySem.W.nsIn K mainGlobals "facts" = some (some (.ref f5)))
    (l5 : K.lookup f5 = some ⟨oc5, od5, .func (PySem.W.fnOf "facts" "facts" (defArgs (topS 14)) (defBody (topS 14)) (defScope (topS 14)) .none kV5 dc5 pm5 an5 cd5 ct5), sl5⟩)
    (c5 : PySem.W.codeIn K cd5 "facts" = true)
    (k5 : PySem.W.keepIn K (.ref f5) = true)
    (a6 : PySem.W.nsIn K mainGlobals "row_fact" = some (some (.ref f6)))
    (l6 : K.lookup f6 = some ⟨oc6, od6, .func (PySem.W.fnOf "row_fact" "row_fact" (defArgs (topS 15)) (defBody (topS 15)) (defScope (topS 15)) .none kV6 dc6 pm6 an6 cd6 ct6), sl6⟩)
    (c6 : PySem.W.codeIn K cd6 "row_fact" = true)
    (k6 : PySem.W.keepIn K (.ref f6) = true)
    (a7 : PySem.W.nsIn K mainGlobals "only" = some (some (.ref f7)))
    (l7 : K.lookup f7 = some ⟨oc7, od7, .func (PySem.W.fnOf "only" "only" (defArgs (topS 16)) (defBody (topS 16)) (defScope (topS 16)) .none kV7 dc7 pm7 an7 cd7 ct7), sl7⟩)
    (c7 : PySem.W.codeIn K cd7 "only" = true)
    (k7 : PySem.W.keepIn K (.ref f7) = true)
    (a8 : PySem.W.nsIn K mainGlobals "check_box" = some (some (.ref f8)))
    (l8 : K.lookup f8 = some ⟨oc8, od8, .func (PySem.W.fnOf "check_box" "check_box" (defArgs (topS 17)) (defBody (topS 17)) (defScope (topS 17)) .none kV8 dc8 pm8 an8 cd8 ct8), sl8⟩)
    (c8 : PySem.W.codeIn K cd8 "check_box" = true)
    (k8 : PySem.W.keepIn K (.ref f8) = true)
    (a9 : PySem.W.nsIn K mainGlobals "is_box" = some (some (.ref f9)))
    (l9 : K.lookup f9 = some ⟨oc9, od9, .func (PySem.W.fnOf "is_box" "is_box" (defArgs (topS 18)) (defBody (topS 18)) (defScope (topS 18)) .none kV9 dc9 pm9 an9 cd9 ct9), sl9⟩)
    (c9 : PySem.W.codeIn K cd9 "is_box" = true)
    (k9 : PySem.W.keepIn K (.ref f9) = true)
    (a10 : PySem.W.nsIn K mainGlobals "is_span" = some (some (.ref f10)))
    (l10 : K.lookup f10 = some ⟨oc10, od10, .func (PySem.W.fnOf "is_span" "is_span" (defArgs (topS 19)) (defBody (topS 19)) (defScope (topS 19)) .none kV10 dc10 pm10 an10 cd10 ct10), sl10⟩)
    (c10 : PySem.W.codeIn K cd10 "is_span" = true)
    (k10 : PySem.W.keepIn K (.ref f10) = true)
    (a11 : PySem.W.nsIn K mainGlobals "turned" = some (some (.ref f11)))
    (l11 : K.lookup f11 = some ⟨oc11, od11, .func (PySem.W.fnOf "turned" "turned" (defArgs (topS 21)) (defBody (topS 21)) (defScope (topS 21)) .none kV11 dc11 pm11 an11 cd11 ct11), sl11⟩)
    (c11 : PySem.W.codeIn K cd11 "turned" = true)
    (k11 : PySem.W.keepIn K (.ref f11) = true)
    (a12 : PySem.W.nsIn K mainGlobals "about_row" = some (some (.ref f12)))
    (l12 : K.lookup f12 = some ⟨oc12, od12, .func (PySem.W.fnOf "about_row" "about_row" (defArgs (topS 22)) (defBody (topS 22)) (defScope (topS 22)) .none kV12 dc12 pm12 an12 cd12 ct12), sl12⟩)
    (c12 : PySem.W.codeIn K cd12 "about_row" = true)
    (k12 : PySem.W.keepIn K (.ref f12) = true)
    (a13 : PySem.W.nsIn K mainGlobals "other_row" = some (some (.ref f13)))
    (l13 : K.lookup f13 = some ⟨oc13, od13, .func (PySem.W.fnOf "other_row" "other_row" (defArgs (topS 23)) (defBody (topS 23)) (defScope (topS 23)) .none kV13 dc13 pm13 an13 cd13 ct13), sl13⟩)
    (c13 : PySem.W.codeIn K cd13 "other_row" = true)
    (k13 : PySem.W.keepIn K (.ref f13) = true)
    (a14 : PySem.W.nsIn K mainGlobals "reduced" = some (some (.ref f14)))
    (l14 : K.lookup f14 = some ⟨oc14, od14, .func (PySem.W.fnOf "reduced" "reduced" (defArgs (topS 24)) (defBody (topS 24)) (defScope (topS 24)) .none kV14 dc14 pm14 an14 cd14 ct14), sl14⟩)
    (c14 : PySem.W.codeIn K cd14 "reduced" = true)
    (k14 : PySem.W.keepIn K (.ref f14) = true)
    (a15 : PySem.W.nsIn K mainGlobals "loose" = some (some (.ref f15)))
    (l15 : K.lookup f15 = some ⟨oc15, od15, .func (PySem.W.fnOf "loose" "loose" (defArgs (topS 26)) (defBody (topS 26)) (defScope (topS 26)) .none kV15 dc15 pm15 an15 cd15 ct15), sl15⟩)
    (c15 : PySem.W.codeIn K cd15 "loose" = true)
    (k15 : PySem.W.keepIn K (.ref f15) = true)
    (a16 : PySem.W.nsIn K mainGlobals "slack_line" = some (some (.ref f16)))
    (l16 : K.lookup f16 = some ⟨oc16, od16, .func (PySem.W.fnOf "slack_line" "slack_line" (defArgs (topS 28)) (defBody (topS 28)) (defScope (topS 28)) .none kV16 dc16 pm16 an16 cd16 ct16), sl16⟩)
    (c16 : PySem.W.codeIn K cd16 "slack_line" = true)
    (k16 : PySem.W.keepIn K (.ref f16) = true)
    (a17 : PySem.W.nsIn K mainGlobals "gain_line" = some (some (.ref f17)))
    (l17 : K.lookup f17 = some ⟨oc17, od17, .func (PySem.W.fnOf "gain_line" "gain_line" (defArgs (topS 29)) (defBody (topS 29)) (defScope (topS 29)) .none kV17 dc17 pm17 an17 cd17 ct17), sl17⟩)
    (c17 : PySem.W.codeIn K cd17 "gain_line" = true)
    (k17 : PySem.W.keepIn K (.ref f17) = true)
    (a18 : PySem.W.nsIn K mainGlobals "is_problem" = some (some (.ref f18)))
    (l18 : K.lookup f18 = some ⟨oc18, od18, .func (PySem.W.fnOf "is_problem" "is_problem" (defArgs (topS 37)) (defBody (topS 37)) (defScope (topS 37)) .none kV18 dc18 pm18 an18 cd18 ct18), sl18⟩)
    (c18 : PySem.W.codeIn K cd18 "is_problem" = true)
    (k18 : PySem.W.keepIn K (.ref f18) = true)
    (a19 : PySem.W.nsIn K mainGlobals "are_tops" = some (some (.ref f19)))
    (l19 : K.lookup f19 = some ⟨oc19, od19, .func (PySem.W.fnOf "are_tops" "are_tops" (defArgs (topS 38)) (defBody (topS 38)) (defScope (topS 38)) .none kV19 dc19 pm19 an19 cd19 ct19), sl19⟩)
    (c19 : PySem.W.codeIn K cd19 "are_tops" = true)
    (k19 : PySem.W.keepIn K (.ref f19) = true)
    (a20 : PySem.W.nsIn K mainGlobals "are_rows" = some (some (.ref f20)))
    (l20 : K.lookup f20 = some ⟨oc20, od20, .func (PySem.W.fnOf "are_rows" "are_rows" (defArgs (topS 39)) (defBody (topS 39)) (defScope (topS 39)) .none kV20 dc20 pm20 an20 cd20 ct20), sl20⟩)
    (c20 : PySem.W.codeIn K cd20 "are_rows" = true)
    (k20 : PySem.W.keepIn K (.ref f20) = true)
    (a21 : PySem.W.nsIn K mainGlobals "is_row" = some (some (.ref f21)))
    (l21 : K.lookup f21 = some ⟨oc21, od21, .func (PySem.W.fnOf "is_row" "is_row" (defArgs (topS 40)) (defBody (topS 40)) (defScope (topS 40)) .none kV21 dc21 pm21 an21 cd21 ct21), sl21⟩)
    (c21 : PySem.W.codeIn K cd21 "is_row" = true)
    (k21 : PySem.W.keepIn K (.ref f21) = true)
    (a22 : PySem.W.nsIn K mainGlobals "is_word" = some (some (.ref f22)))
    (l22 : K.lookup f22 = some ⟨oc22, od22, .func (PySem.W.fnOf "is_word" "is_word" (defArgs (topS 41)) (defBody (topS 41)) (defScope (topS 41)) .none kV22 dc22 pm22 an22 cd22 ct22), sl22⟩)
    (c22 : PySem.W.codeIn K cd22 "is_word" = true)
    (k22 : PySem.W.keepIn K (.ref f22) = true)
    (a23 : PySem.W.nsIn K mainGlobals "is_gain" = some (some (.ref f23)))
    (l23 : K.lookup f23 = some ⟨oc23, od23, .func (PySem.W.fnOf "is_gain" "is_gain" (defArgs (topS 42)) (defBody (topS 42)) (defScope (topS 42)) .none kV23 dc23 pm23 an23 cd23 ct23), sl23⟩)
    (c23 : PySem.W.codeIn K cd23 "is_gain" = true)
    (k23 : PySem.W.keepIn K (.ref f23) = true)
    (a24 : PySem.W.nsIn K mainGlobals "are_numbers" = some (some (.ref f24)))
    (l24 : K.lookup f24 = some ⟨oc24, od24, .func (PySem.W.fnOf "are_numbers" "are_numbers" (defArgs (topS 43)) (defBody (topS 43)) (defScope (topS 43)) .none kV24 dc24 pm24 an24 cd24 ct24), sl24⟩)
    (c24 : PySem.W.codeIn K cd24 "are_numbers" = true)
    (k24 : PySem.W.keepIn K (.ref f24) = true)
    (a25 : PySem.W.nsIn K mainGlobals "is_point" = some (some (.ref f25)))
    (l25 : K.lookup f25 = some ⟨oc25, od25, .func (PySem.W.fnOf "is_point" "is_point" (defArgs (topS 44)) (defBody (topS 44)) (defScope (topS 44)) .none kV25 dc25 pm25 an25 cd25 ct25), sl25⟩)
    (c25 : PySem.W.codeIn K cd25 "is_point" = true)
    (k25 : PySem.W.keepIn K (.ref f25) = true)
    (a26 : PySem.W.nsIn K mainGlobals "check_point" = some (some (.ref f26)))
    (l26 : K.lookup f26 = some ⟨oc26, od26, .func (PySem.W.fnOf "check_point" "check_point" (defArgs (topS 45)) (defBody (topS 45)) (defScope (topS 45)) .none kV26 dc26 pm26 an26 cd26 ct26), sl26⟩)
    (c26 : PySem.W.codeIn K cd26 "check_point" = true)
    (k26 : PySem.W.keepIn K (.ref f26) = true)
    (a27 : PySem.W.nsIn K mainGlobals "gained" = some (some (.ref f27)))
    (l27 : K.lookup f27 = some ⟨oc27, od27, .func (PySem.W.fnOf "gained" "gained" (defArgs (topS 46)) (defBody (topS 46)) (defScope (topS 46)) .none kV27 dc27 pm27 an27 cd27 ct27), sl27⟩)
    (c27 : PySem.W.codeIn K cd27 "gained" = true)
    (k27 : PySem.W.keepIn K (.ref f27) = true)
    (a28 : PySem.W.nsIn K mainGlobals "solved" = some (some (.ref f28)))
    (l28 : K.lookup f28 = some ⟨oc28, od28, .func (PySem.W.fnOf "solved" "solved" (defArgs (topS 48)) (defBody (topS 48)) (defScope (topS 48)) .none kV28 dc28 pm28 an28 cd28 ct28), sl28⟩)
    (c28 : PySem.W.codeIn K cd28 "solved" = true)
    (k28 : PySem.W.keepIn K (.ref f28) = true)
    (a29 : PySem.W.nsIn K mainGlobals "grown" = some (some (.ref f29)))
    (l29 : K.lookup f29 = some ⟨oc29, od29, .func (PySem.W.fnOf "grown" "grown" (defArgs (topS 49)) (defBody (topS 49)) (defScope (topS 49)) .none kV29 dc29 pm29 an29 cd29 ct29), sl29⟩)
    (c29 : PySem.W.codeIn K cd29 "grown" = true)
    (k29 : PySem.W.keepIn K (.ref f29) = true)
    (a30 : PySem.W.nsIn K mainGlobals "broken_unknown" = some (some (.ref f30)))
    (l30 : K.lookup f30 = some ⟨oc30, od30, .func (PySem.W.fnOf "broken_unknown" "broken_unknown" (defArgs (topS 50)) (defBody (topS 50)) (defScope (topS 50)) .none kV30 dc30 pm30 an30 cd30 ct30), sl30⟩)
    (c30 : PySem.W.codeIn K cd30 "broken_unknown" = true)
    (k30 : PySem.W.keepIn K (.ref f30) = true)
    (a31 : PySem.W.nsIn K mainGlobals "box_below" = some (some (.ref f31)))
    (l31 : K.lookup f31 = some ⟨oc31, od31, .func (PySem.W.fnOf "box_below" "box_below" (defArgs (topS 51)) (defBody (topS 51)) (defScope (topS 51)) .none kV31 dc31 pm31 an31 cd31 ct31), sl31⟩)
    (c31 : PySem.W.codeIn K cd31 "box_below" = true)
    (k31 : PySem.W.keepIn K (.ref f31) = true)
    (a32 : PySem.W.nsIn K mainGlobals "box_above" = some (some (.ref f32)))
    (l32 : K.lookup f32 = some ⟨oc32, od32, .func (PySem.W.fnOf "box_above" "box_above" (defArgs (topS 52)) (defBody (topS 52)) (defScope (topS 52)) .none kV32 dc32 pm32 an32 cd32 ct32), sl32⟩)
    (c32 : PySem.W.codeIn K cd32 "box_above" = true)
    (k32 : PySem.W.keepIn K (.ref f32) = true)
    (a33 : PySem.W.nsIn K mainGlobals "with_span" = some (some (.ref f33)))
    (l33 : K.lookup f33 = some ⟨oc33, od33, .func (PySem.W.fnOf "with_span" "with_span" (defArgs (topS 53)) (defBody (topS 53)) (defScope (topS 53)) .none kV33 dc33 pm33 an33 cd33 ct33), sl33⟩)
    (c33 : PySem.W.codeIn K cd33 "with_span" = true)
    (k33 : PySem.W.keepIn K (.ref f33) = true)
    (a34 : PySem.W.nsIn K mainGlobals "_law_cell_at" = some (some (.ref f34)))
    (l34 : K.lookup f34 = some ⟨oc34, od34, .func (PySem.W.fnOf "_law_cell_at" "_law_cell_at" (defArgs (topS 55)) (defBody (topS 55)) (defScope (topS 55)) .none kV34 dc34 pm34 an34 cd34 ct34), sl34⟩)
    (c34 : PySem.W.codeIn K cd34 "_law_cell_at" = true)
    (k34 : PySem.W.keepIn K (.ref f34) = true)
    (a35 : PySem.W.nsIn K mainGlobals "_law_whole" = some (some (.ref f35)))
    (l35 : K.lookup f35 = some ⟨oc35, od35, .func (PySem.W.fnOf "_law_whole" "_law_whole" (defArgs (topS 56)) (defBody (topS 56)) (defScope (topS 56)) .none kV35 dc35 pm35 an35 cd35 ct35), sl35⟩)
    (c35 : PySem.W.codeIn K cd35 "_law_whole" = true)
    (k35 : PySem.W.keepIn K (.ref f35) = true)
    (a36 : PySem.W.nsIn K mainGlobals "_law_number" = some (some (.ref f36)))
    (l36 : K.lookup f36 = some ⟨oc36, od36, .func (PySem.W.fnOf "_law_number" "_law_number" (defArgs (topS 57)) (defBody (topS 57)) (defScope (topS 57)) .none kV36 dc36 pm36 an36 cd36 ct36), sl36⟩)
    (c36 : PySem.W.codeIn K cd36 "_law_number" = true)
    (k36 : PySem.W.keepIn K (.ref f36) = true)
    (a37 : PySem.W.nsIn K mainGlobals "_law_bound" = some (some (.ref f37)))
    (l37 : K.lookup f37 = some ⟨oc37, od37, .func (PySem.W.fnOf "_law_bound" "_law_bound" (defArgs (topS 58)) (defBody (topS 58)) (defScope (topS 58)) .none kV37 dc37 pm37 an37 cd37 ct37), sl37⟩)
    (c37 : PySem.W.codeIn K cd37 "_law_bound" = true)
    (k37 : PySem.W.keepIn K (.ref f37) = true)
    (a38 : PySem.W.nsIn K mainGlobals "_law_tops" = some (some (.ref f38)))
    (l38 : K.lookup f38 = some ⟨oc38, od38, .func (PySem.W.fnOf "_law_tops" "_law_tops" (defArgs (topS 59)) (defBody (topS 59)) (defScope (topS 59)) .none kV38 dc38 pm38 an38 cd38 ct38), sl38⟩)
    (c38 : PySem.W.codeIn K cd38 "_law_tops" = true)
    (k38 : PySem.W.keepIn K (.ref f38) = true)
    (a39 : PySem.W.nsIn K mainGlobals "_law_kind" = some (some (.ref f39)))
    (l39 : K.lookup f39 = some ⟨oc39, od39, .func (PySem.W.fnOf "_law_kind" "_law_kind" (defArgs (topS 60)) (defBody (topS 60)) (defScope (topS 60)) .none kV39 dc39 pm39 an39 cd39 ct39), sl39⟩)
    (c39 : PySem.W.codeIn K cd39 "_law_kind" = true)
    (k39 : PySem.W.keepIn K (.ref f39) = true)
    (a40 : PySem.W.nsIn K mainGlobals "_law_gain" = some (some (.ref f40)))
    (l40 : K.lookup f40 = some ⟨oc40, od40, .func (PySem.W.fnOf "_law_gain" "_law_gain" (defArgs (topS 61)) (defBody (topS 61)) (defScope (topS 61)) .none kV40 dc40 pm40 an40 cd40 ct40), sl40⟩)
    (c40 : PySem.W.codeIn K cd40 "_law_gain" = true)
    (k40 : PySem.W.keepIn K (.ref f40) = true)
    (a41 : PySem.W.nsIn K mainGlobals "_law_rows" = some (some (.ref f41)))
    (l41 : K.lookup f41 = some ⟨oc41, od41, .func (PySem.W.fnOf "_law_rows" "_law_rows" (defArgs (topS 62)) (defBody (topS 62)) (defScope (topS 62)) .none kV41 dc41 pm41 an41 cd41 ct41), sl41⟩)
    (c41 : PySem.W.codeIn K cd41 "_law_rows" = true)
    (k41 : PySem.W.keepIn K (.ref f41) = true)
    (a42 : PySem.W.nsIn K mainGlobals "_law_sum" = some (some (.ref f42)))
    (l42 : K.lookup f42 = some ⟨oc42, od42, .func (PySem.W.fnOf "_law_sum" "_law_sum" (defArgs (topS 63)) (defBody (topS 63)) (defScope (topS 63)) .none kV42 dc42 pm42 an42 cd42 ct42), sl42⟩)
    (c42 : PySem.W.codeIn K cd42 "_law_sum" = true)
    (k42 : PySem.W.keepIn K (.ref f42) = true)
    (a43 : PySem.W.nsIn K mainGlobals "_law_meets" = some (some (.ref f43)))
    (l43 : K.lookup f43 = some ⟨oc43, od43, .func (PySem.W.fnOf "_law_meets" "_law_meets" (defArgs (topS 64)) (defBody (topS 64)) (defScope (topS 64)) .none kV43 dc43 pm43 an43 cd43 ct43), sl43⟩)
    (c43 : PySem.W.codeIn K cd43 "_law_meets" = true)
    (k43 : PySem.W.keepIn K (.ref f43) = true)
    (a44 : PySem.W.nsIn K mainGlobals "_law_gain_of" = some (some (.ref f44)))
    (l44 : K.lookup f44 = some ⟨oc44, od44, .func (PySem.W.fnOf "_law_gain_of" "_law_gain_of" (defArgs (topS 65)) (defBody (topS 65)) (defScope (topS 65)) .none kV44 dc44 pm44 an44 cd44 ct44), sl44⟩)
    (c44 : PySem.W.codeIn K cd44 "_law_gain_of" = true)
    (k44 : PySem.W.keepIn K (.ref f44) = true)
    (a45 : PySem.W.nsIn K mainGlobals "law" = some (some (.ref f45)))
    (l45 : K.lookup f45 = some ⟨oc45, od45, .func (PySem.W.fnOf "law" "law" (defArgs (topS 66)) (defBody (topS 66)) (defScope (topS 66)) .none kV45 dc45 pm45 an45 cd45 ct45), sl45⟩)
    (c45 : PySem.W.codeIn K cd45 "law" = true)
    (k45 : PySem.W.keepIn K (.ref f45) = true)
    (aC : PySem.W.nsIn K mainGlobals "Problem" = some (some (.ref C)))
    (aI : PySem.W.findIn K (.ref C) "__init__" = some (some (.ref fI)))
    (iI : PySem.W.isFn K (.ref fI) = true)
    (lI : K.lookup fI = some ⟨ocI, odI, .func (PySem.W.fnOf "__init__" "Problem.__init__" (defArgs st_init) (defBody st_init) (defScope st_init) .none kVI dcI pmI anI cdI ctI), slI⟩)
    (cI : PySem.W.codeIn K cdI "Problem.__init__" = true)
    (kI : PySem.W.keepIn K (.ref fI) = true)
    (pg : PySem.W.plainGet K C Str.empty = true)
    (hd : PySem.W.hasDictIn K C = true)
    (po : PySem.W.plainOver K C = true)
    (sa : PySem.W.findIn K (.ref C) "__setattr__" = some (some (.builtin "object.__setattr__")))
    (mkC : PySem.W.makesIn K C = true)
    (kC : PySem.W.keepIn K (.ref C) = true)
    (na_tops : PySem.W.findIn K (.ref C) "tops" = some none)
    (na_rows : PySem.W.findIn K (.ref C) "rows" = some none)
    (na_gain : PySem.W.findIn K (.ref C) "gain" = some none)
    (a1C : PySem.W.nsIn K mainGlobals "Corner" = some (some (.ref C1)))
    (a1I : PySem.W.findIn K (.ref C1) "__init__" = some (some (.ref fJ)))
    (i1I : PySem.W.isFn K (.ref fJ) = true)
    (l1I : K.lookup fJ = some ⟨ocJ, odJ, .func (PySem.W.fnOf "__init__" "Corner.__init__" (defArgs (inClass (topS 27) 0)) (defBody (inClass (topS 27) 0)) (defScope (inClass (topS 27) 0)) .none kVJ dcJ pmJ anJ cdJ ctJ), slJ⟩)
    (c1I : PySem.W.codeIn K cdJ "Corner.__init__" = true)
    (k1I : PySem.W.keepIn K (.ref fJ) = true)
    (pg1 : PySem.W.plainGet K C1 Str.empty = true)
    (hd1 : PySem.W.hasDictIn K C1 = true)
    (po1 : PySem.W.plainOver K C1 = true)
    (sa1 : PySem.W.findIn K (.ref C1) "__setattr__" = some (some (.builtin "object.__setattr__")))
    (mkC1 : PySem.W.makesIn K C1 = true)
    (kC1 : PySem.W.keepIn K (.ref C1) = true)
    (na1_tight : PySem.W.findIn K (.ref C1) "tight" = some none)
    (na1_others : PySem.W.findIn K (.ref C1) "others" = some none)
    (na1_table : PySem.W.findIn K (.ref C1) "table" = some none)
    (na1_scale : PySem.W.findIn K (.ref C1) "scale" = some none)
    (aM0 : PySem.W.findIn K (.ref C1) "missed_row" = some (some (.ref fM0)))
    (iM0 : PySem.W.isFn K (.ref fM0) = true)
    (lM0 : K.lookup fM0 = some ⟨ocM0, odM0, .func (PySem.W.fnOf "missed_row" "Corner.missed_row" (defArgs (inClass (topS 27) 1)) (defBody (inClass (topS 27) 1)) (defScope (inClass (topS 27) 1)) .none kVM0 dcM0 pmM0 anM0 (.ref cM0) ctM0), slM0⟩)
    (qM0 : PySem.W.codeIn K (.ref cM0) "Corner.missed_row" = true)
    (kM0 : PySem.W.keepIn K (.ref fM0) = true)
    (oM0 : K.lookup cM0 = some ⟨xaM0, xbM0, .fields vsM0, xsM0⟩)
    (vM0 : (vsM0[11]? : Option Value) = some (.ref PM0))
    (hM0 : PySem.W.codeHdIn K cM0 PM0 = true)
    (nM0 : K.lookup PM0 = none)
    (tM0 : h.get? PM0 = some { cls := .none, data := .fields #[] })
    (aM1 : PySem.W.findIn K (.ref C1) "column_for" = some (some (.ref fM1)))
    (iM1 : PySem.W.isFn K (.ref fM1) = true)
    (lM1 : K.lookup fM1 = some ⟨ocM1, odM1, .func (PySem.W.fnOf "column_for" "Corner.column_for" (defArgs (inClass (topS 27) 2)) (defBody (inClass (topS 27) 2)) (defScope (inClass (topS 27) 2)) .none kVM1 dcM1 pmM1 anM1 (.ref cM1) ctM1), slM1⟩)
    (qM1 : PySem.W.codeIn K (.ref cM1) "Corner.column_for" = true)
    (kM1 : PySem.W.keepIn K (.ref fM1) = true)
    (oM1 : K.lookup cM1 = some ⟨xaM1, xbM1, .fields vsM1, xsM1⟩)
    (vM1 : (vsM1[11]? : Option Value) = some (.ref PM1))
    (hM1 : PySem.W.codeHdIn K cM1 PM1 = true)
    (nM1 : K.lookup PM1 = none)
    (tM1 : h.get? PM1 = some { cls := .none, data := .fields #[] })
    (aM2 : PySem.W.findIn K (.ref C1) "move" = some (some (.ref fM2)))
    (iM2 : PySem.W.isFn K (.ref fM2) = true)
    (lM2 : K.lookup fM2 = some ⟨ocM2, odM2, .func (PySem.W.fnOf "move" "Corner.move" (defArgs (inClass (topS 27) 3)) (defBody (inClass (topS 27) 3)) (defScope (inClass (topS 27) 3)) .none kVM2 dcM2 pmM2 anM2 cdM2 ctM2), slM2⟩)
    (qM2 : PySem.W.codeIn K cdM2 "Corner.move" = true)
    (kM2 : PySem.W.keepIn K (.ref fM2) = true)
    (aM3 : PySem.W.findIn K (.ref C1) "numbers" = some (some (.ref fM3)))
    (iM3 : PySem.W.isFn K (.ref fM3) = true)
    (lM3 : K.lookup fM3 = some ⟨ocM3, odM3, .func (PySem.W.fnOf "numbers" "Corner.numbers" (defArgs (inClass (topS 27) 4)) (defBody (inClass (topS 27) 4)) (defScope (inClass (topS 27) 4)) .none kVM3 dcM3 pmM3 anM3 cdM3 ctM3), slM3⟩)
    (qM3 : PySem.W.codeIn K cdM3 "Corner.numbers" = true)
    (kM3 : PySem.W.keepIn K (.ref fM3) = true)
    (aM4 : PySem.W.findIn K (.ref C1) "gain_weights" = some (some (.ref fM4)))
    (iM4 : PySem.W.isFn K (.ref fM4) = true)
    (lM4 : K.lookup fM4 = some ⟨ocM4, odM4, .func (PySem.W.fnOf "gain_weights" "Corner.gain_weights" (defArgs (inClass (topS 27) 5)) (defBody (inClass (topS 27) 5)) (defScope (inClass (topS 27) 5)) .none kVM4 dcM4 pmM4 anM4 cdM4 ctM4), slM4⟩)
    (qM4 : PySem.W.codeIn K cdM4 "Corner.gain_weights" = true)
    (kM4 : PySem.W.keepIn K (.ref fM4) = true)
    (aM5 : PySem.W.findIn K (.ref C1) "none_weights" = some (some (.ref fM5)))
    (iM5 : PySem.W.isFn K (.ref fM5) = true)
    (lM5 : K.lookup fM5 = some ⟨ocM5, odM5, .func (PySem.W.fnOf "none_weights" "Corner.none_weights" (defArgs (inClass (topS 27) 6)) (defBody (inClass (topS 27) 6)) (defScope (inClass (topS 27) 6)) .none kVM5 dcM5 pmM5 anM5 cdM5 ctM5), slM5⟩)
    (qM5 : PySem.W.codeIn K cdM5 "Corner.none_weights" = true)
    (kM5 : PySem.W.keepIn K (.ref fM5) = true)
    (aM6 : PySem.W.findIn K (.ref C1) "weights" = some (some (.ref fM6)))
    (iM6 : PySem.W.isFn K (.ref fM6) = true)
    (lM6 : K.lookup fM6 = some ⟨ocM6, odM6, .func (PySem.W.fnOf "weights" "Corner.weights" (defArgs (inClass (topS 27) 7)) (defBody (inClass (topS 27) 7)) (defScope (inClass (topS 27) 7)) .none kVM6 dcM6 pmM6 anM6 cdM6 ctM6), slM6⟩)
    (qM6 : PySem.W.codeIn K cdM6 "Corner.weights" = true)
    (kM6 : PySem.W.keepIn K (.ref fM6) = true)
    (neP : ¬ PM0 = PM1)
    (xg0 : PySem.W.nsIn K mainGlobals "CutError" = some (some (.ref x0)))
    (xk0 : PySem.W.keepIn K (.ref x0) = true)
    (xx0 : PySem.W.excIn K x0 [.type "ValueError", .type "Exception", .type "BaseException", .type "object"] "ValueError.__new__" = true)
    (xb0 : PySem.W.subIn K (.ref x0) (.type "BaseException") = some true)
    (xt0 : PySem.W.typeIn K (.ref x0) = some (.type "type"))
    (xg1 : PySem.W.nsIn K mainGlobals "BadProblem" = some (some (.ref x1)))
    (xk1 : PySem.W.keepIn K (.ref x1) = true)
    (xx1 : PySem.W.excIn K x1 [.type "ValueError", .type "Exception", .type "BaseException", .type "object"] "ValueError.__new__" = true)
    (xb1 : PySem.W.subIn K (.ref x1) (.type "BaseException") = some true)
    (xt1 : PySem.W.typeIn K (.ref x1) = some (.type "type"))
    (xg2 : PySem.W.nsIn K mainGlobals "BadPoint" = some (some (.ref x2)))
    (xk2 : PySem.W.keepIn K (.ref x2) = true)
    (xx2 : PySem.W.excIn K x2 [.type "ValueError", .type "Exception", .type "BaseException", .type "object"] "ValueError.__new__" = true)
    (xb2 : PySem.W.subIn K (.ref x2) (.type "BaseException") = some true)
    (xt2 : PySem.W.typeIn K (.ref x2) = some (.type "type"))
    (xg3 : PySem.W.nsIn K mainGlobals "BadBox" = some (some (.ref x3)))
    (xk3 : PySem.W.keepIn K (.ref x3) = true)
    (xx3 : PySem.W.excIn K x3 [.type "ValueError", .type "Exception", .type "BaseException", .type "object"] "ValueError.__new__" = true)
    (xb3 : PySem.W.subIn K (.ref x3) (.type "BaseException") = some true)
    (xt3 : PySem.W.typeIn K (.ref x3) = some (.type "type"))
    (xg4 : PySem.W.nsIn K mainGlobals "NoTurn" = some (some (.ref x4)))
    (xk4 : PySem.W.keepIn K (.ref x4) = true)
    (xx4 : PySem.W.excIn K x4 [.type "ValueError", .type "Exception", .type "BaseException", .type "object"] "ValueError.__new__" = true)
    (xb4 : PySem.W.subIn K (.ref x4) (.type "BaseException") = some true)
    (xt4 : PySem.W.typeIn K (.ref x4) = some (.type "type"))
    (i_MOST_UNKNOWNS : PySem.W.nsIn K mainGlobals "MOST_UNKNOWNS" = some (some (.int (3) t_MOST_UNKNOWNS)))
    (i_GREATEST_TOP : PySem.W.nsIn K mainGlobals "GREATEST_TOP" = some (some (.int (20) t_GREATEST_TOP)))
    (i_MOST_ROWS : PySem.W.nsIn K mainGlobals "MOST_ROWS" = some (some (.int (6) t_MOST_ROWS)))
    (i_GREATEST_NUMBER : PySem.W.nsIn K mainGlobals "GREATEST_NUMBER" = some (some (.int (50) t_GREATEST_NUMBER)))
    (i_GREATEST_BOUND : PySem.W.nsIn K mainGlobals "GREATEST_BOUND" = some (some (.int (2000) t_GREATEST_BOUND)))
    (m_gcd : PySem.W.nsIn K mainGlobals "gcd" = some (some (.builtin "math.gcd")))
    (n_all : PySem.W.nsIn K mainGlobals "all" = some none)
    (n_bool : PySem.W.nsIn K mainGlobals "bool" = some none)
    (n_enumerate : PySem.W.nsIn K mainGlobals "enumerate" = some none)
    (n_int : PySem.W.nsIn K mainGlobals "int" = some none)
    (n_isinstance : PySem.W.nsIn K mainGlobals "isinstance" = some none)
    (n_len : PySem.W.nsIn K mainGlobals "len" = some none)
    (n_list : PySem.W.nsIn K mainGlobals "list" = some none)
    (n_max : PySem.W.nsIn K mainGlobals "max" = some none)
    (n_min : PySem.W.nsIn K mainGlobals "min" = some none)
    (n_range : PySem.W.nsIn K mainGlobals "range" = some none)
    (n_sorted : PySem.W.nsIn K mainGlobals "sorted" = some none)
    (n_str : PySem.W.nsIn K mainGlobals "str" = some none)
    (n_sum : PySem.W.nsIn K mainGlobals "sum" = some none)
    (n_tuple : PySem.W.nsIn K mainGlobals "tuple" = some none)
    (n_zip : PySem.W.nsIn K mainGlobals "zip" = some none) :
    LamX.LawAtS l w K (L2.CX l.prog w) 80 63 "_law_script" mg fa h := by
  have e := hfa.symm.trans (PySem.W.mg_of X G a45)
  cases e
  have D0 : DefAt K mg "is_whole" (topS 8) ["thing"] := by
    have F := fun_mk (st := topS 8) l0 c0 k0
    exact ⟨_, _, F, PySem.W.mg_of X G a0, F.binds fun _ _ _ _ _ _ us hl => match us, hl with | [_], _ => rfl⟩
  have D1 : DefAt K mg "is_within" (topS 9) ["thing", "least", "greatest"] := by
    have F := fun_mk (st := topS 9) l1 c1 k1
    exact ⟨_, _, F, PySem.W.mg_of X G a1, F.binds fun _ _ _ _ _ _ us hl => match us, hl with | [_, _, _], _ => rfl⟩
  have D2 : DefAt K mg "are_within" (topS 10) ["things", "least", "greatest"] := by
    have F := fun_mk (st := topS 10) l2 c2 k2
    exact ⟨_, _, F, PySem.W.mg_of X G a2, F.binds fun _ _ _ _ _ _ us hl => match us, hl with | [_, _, _], _ => rfl⟩
  have D3 : DefAt K mg "products_sum" (topS 11) ["numbers", "others"] := by
    have F := fun_mk (st := topS 11) l3 c3 k3
    exact ⟨_, _, F, PySem.W.mg_of X G a3, F.binds fun _ _ _ _ _ _ us hl => match us, hl with | [_, _], _ => rfl⟩
  have D4 : DefAt K mg "whole_box" (topS 13) ["problem"] := by
    have F := fun_mk (st := topS 13) l4 c4 k4
    exact ⟨_, _, F, PySem.W.mg_of X G a4, F.binds fun _ _ _ _ _ _ us hl => match us, hl with | [_], _ => rfl⟩
  have D5 : DefAt K mg "facts" (topS 14) ["problem", "box"] := by
    have F := fun_mk (st := topS 14) l5 c5 k5
    exact ⟨_, _, F, PySem.W.mg_of X G a5, F.binds fun _ _ _ _ _ _ us hl => match us, hl with | [_, _], _ => rfl⟩
  have D6 : DefAt K mg "row_fact" (topS 15) ["row"] := by
    have F := fun_mk (st := topS 15) l6 c6 k6
    exact ⟨_, _, F, PySem.W.mg_of X G a6, F.binds fun _ _ _ _ _ _ us hl => match us, hl with | [_], _ => rfl⟩
  have D7 : DefAt K mg "only" (topS 16) ["unknown", "number", "unknowns"] := by
    have F := fun_mk (st := topS 16) l7 c7 k7
    exact ⟨_, _, F, PySem.W.mg_of X G a7, F.binds fun _ _ _ _ _ _ us hl => match us, hl with | [_, _, _], _ => rfl⟩
  have D8 : DefAt K mg "check_box" (topS 17) ["problem", "box"] := by
    have F := fun_mk (st := topS 17) l8 c8 k8
    exact ⟨_, _, F, PySem.W.mg_of X G a8, F.binds fun _ _ _ _ _ _ us hl => match us, hl with | [_, _], _ => rfl⟩
  have D9 : DefAt K mg "is_box" (topS 18) ["problem", "box"] := by
    have F := fun_mk (st := topS 18) l9 c9 k9
    exact ⟨_, _, F, PySem.W.mg_of X G a9, F.binds fun _ _ _ _ _ _ us hl => match us, hl with | [_, _], _ => rfl⟩
  have D10 : DefAt K mg "is_span" (topS 19) ["span", "top"] := by
    have F := fun_mk (st := topS 19) l10 c10 k10
    exact ⟨_, _, F, PySem.W.mg_of X G a10, F.binds fun _ _ _ _ _ _ us hl => match us, hl with | [_, _], _ => rfl⟩
  have D11 : DefAt K mg "turned" (topS 21) ["table", "scale", "row", "column"] := by
    have F := fun_mk (st := topS 21) l11 c11 k11
    exact ⟨_, _, F, PySem.W.mg_of X G a11, F.binds fun _ _ _ _ _ _ us hl => match us, hl with | [_, _, _, _], _ => rfl⟩
  have D12 : DefAt K mg "about_row" (topS 22) ["line", "scale", "column"] := by
    have F := fun_mk (st := topS 22) l12 c12 k12
    exact ⟨_, _, F, PySem.W.mg_of X G a12, F.binds fun _ _ _ _ _ _ us hl => match us, hl with | [_, _, _], _ => rfl⟩
  have D13 : DefAt K mg "other_row" (topS 23) ["line", "about_line", "scale", "column"] := by
    have F := fun_mk (st := topS 23) l13 c13 k13
    exact ⟨_, _, F, PySem.W.mg_of X G a13, F.binds fun _ _ _ _ _ _ us hl => match us, hl with | [_, _, _, _], _ => rfl⟩
  have D14 : DefAt K mg "reduced" (topS 24) ["table", "scale"] := by
    have F := fun_mk (st := topS 24) l14 c14 k14
    exact ⟨_, _, F, PySem.W.mg_of X G a14, F.binds fun _ _ _ _ _ _ us hl => match us, hl with | [_, _], _ => rfl⟩
  have D15 : DefAt K mg "loose" (topS 26) ["problem", "box"] := by
    have F := fun_mk (st := topS 26) l15 c15 k15
    exact ⟨_, _, F, PySem.W.mg_of X G a15, F.binds fun _ _ _ _ _ _ us hl => match us, hl with | [_, _], _ => rfl⟩
  have D16 : DefAt K mg "slack_line" (topS 28) ["fact", "signs", "ends"] := by
    have F := fun_mk (st := topS 28) l16 c16 k16
    exact ⟨_, _, F, PySem.W.mg_of X G a16, F.binds fun _ _ _ _ _ _ us hl => match us, hl with | [_, _, _], _ => rfl⟩
  have D17 : DefAt K mg "gain_line" (topS 29) ["gain", "signs", "ends"] := by
    have F := fun_mk (st := topS 29) l17 c17 k17
    exact ⟨_, _, F, PySem.W.mg_of X G a17, F.binds fun _ _ _ _ _ _ us hl => match us, hl with | [_, _, _], _ => rfl⟩
  have D18 : DefAt K mg "is_problem" (topS 37) ["tops", "rows", "gain"] := by
    have F := fun_mk (st := topS 37) l18 c18 k18
    exact ⟨_, _, F, PySem.W.mg_of X G a18, F.binds fun _ _ _ _ _ _ us hl => match us, hl with | [_, _, _], _ => rfl⟩
  have D19 : DefAt K mg "are_tops" (topS 38) ["tops"] := by
    have F := fun_mk (st := topS 38) l19 c19 k19
    exact ⟨_, _, F, PySem.W.mg_of X G a19, F.binds fun _ _ _ _ _ _ us hl => match us, hl with | [_], _ => rfl⟩
  have D20 : DefAt K mg "are_rows" (topS 39) ["rows", "unknowns"] := by
    have F := fun_mk (st := topS 39) l20 c20 k20
    exact ⟨_, _, F, PySem.W.mg_of X G a20, F.binds fun _ _ _ _ _ _ us hl => match us, hl with | [_, _], _ => rfl⟩
  have D21 : DefAt K mg "is_row" (topS 40) ["row", "unknowns"] := by
    have F := fun_mk (st := topS 40) l21 c21 k21
    exact ⟨_, _, F, PySem.W.mg_of X G a21, F.binds fun _ _ _ _ _ _ us hl => match us, hl with | [_, _], _ => rfl⟩
  have D22 : DefAt K mg "is_word" (topS 41) ["word"] := by
    have F := fun_mk (st := topS 41) l22 c22 k22
    exact ⟨_, _, F, PySem.W.mg_of X G a22, F.binds fun _ _ _ _ _ _ us hl => match us, hl with | [_], _ => rfl⟩
  have D23 : DefAt K mg "is_gain" (topS 42) ["gain", "unknowns"] := by
    have F := fun_mk (st := topS 42) l23 c23 k23
    exact ⟨_, _, F, PySem.W.mg_of X G a23, F.binds fun _ _ _ _ _ _ us hl => match us, hl with | [_, _], _ => rfl⟩
  have D24 : DefAt K mg "are_numbers" (topS 43) ["numbers", "unknowns"] := by
    have F := fun_mk (st := topS 43) l24 c24 k24
    exact ⟨_, _, F, PySem.W.mg_of X G a24, F.binds fun _ _ _ _ _ _ us hl => match us, hl with | [_, _], _ => rfl⟩
  have D25 : DefAt K mg "is_point" (topS 44) ["problem", "point"] := by
    have F := fun_mk (st := topS 44) l25 c25 k25
    exact ⟨_, _, F, PySem.W.mg_of X G a25, F.binds fun _ _ _ _ _ _ us hl => match us, hl with | [_, _], _ => rfl⟩
  have D26 : DefAt K mg "check_point" (topS 45) ["problem", "point"] := by
    have F := fun_mk (st := topS 45) l26 c26 k26
    exact ⟨_, _, F, PySem.W.mg_of X G a26, F.binds fun _ _ _ _ _ _ us hl => match us, hl with | [_, _], _ => rfl⟩
  have D27 : DefAt K mg "gained" (topS 46) ["problem", "point"] := by
    have F := fun_mk (st := topS 46) l27 c27 k27
    exact ⟨_, _, F, PySem.W.mg_of X G a27, F.binds fun _ _ _ _ _ _ us hl => match us, hl with | [_, _], _ => rfl⟩
  have D28 : DefAt K mg "solved" (topS 48) ["problem"] := by
    have F := fun_mk (st := topS 48) l28 c28 k28
    exact ⟨_, _, F, PySem.W.mg_of X G a28, F.binds fun _ _ _ _ _ _ us hl => match us, hl with | [_], _ => rfl⟩
  have D29 : DefAt K mg "grown" (topS 49) ["problem", "box", "best"] := by
    have F := fun_mk (st := topS 49) l29 c29 k29
    exact ⟨_, _, F, PySem.W.mg_of X G a29, F.binds fun _ _ _ _ _ _ us hl => match us, hl with | [_, _, _], _ => rfl⟩
  have D30 : DefAt K mg "broken_unknown" (topS 50) ["numbers", "divisor"] := by
    have F := fun_mk (st := topS 50) l30 c30 k30
    exact ⟨_, _, F, PySem.W.mg_of X G a30, F.binds fun _ _ _ _ _ _ us hl => match us, hl with | [_, _], _ => rfl⟩
  have D31 : DefAt K mg "box_below" (topS 51) ["box", "unknown", "at"] := by
    have F := fun_mk (st := topS 51) l31 c31 k31
    exact ⟨_, _, F, PySem.W.mg_of X G a31, F.binds fun _ _ _ _ _ _ us hl => match us, hl with | [_, _, _], _ => rfl⟩
  have D32 : DefAt K mg "box_above" (topS 52) ["box", "unknown", "at"] := by
    have F := fun_mk (st := topS 52) l32 c32 k32
    exact ⟨_, _, F, PySem.W.mg_of X G a32, F.binds fun _ _ _ _ _ _ us hl => match us, hl with | [_, _, _], _ => rfl⟩
  have D33 : DefAt K mg "with_span" (topS 53) ["box", "unknown", "span"] := by
    have F := fun_mk (st := topS 53) l33 c33 k33
    exact ⟨_, _, F, PySem.W.mg_of X G a33, F.binds fun _ _ _ _ _ _ us hl => match us, hl with | [_, _, _], _ => rfl⟩
  have D34 : DefAt K mg "_law_cell_at" (topS 55) ["_law_script", "_law_k"] := by
    have F := fun_mk (st := topS 55) l34 c34 k34
    exact ⟨_, _, F, PySem.W.mg_of X G a34, F.binds fun _ _ _ _ _ _ us hl => match us, hl with | [_, _], _ => rfl⟩
  have D35 : DefAt K mg "_law_whole" (topS 56) ["_law_found"] := by
    have F := fun_mk (st := topS 56) l35 c35 k35
    exact ⟨_, _, F, PySem.W.mg_of X G a35, F.binds fun _ _ _ _ _ _ us hl => match us, hl with | [_], _ => rfl⟩
  have D36 : DefAt K mg "_law_number" (topS 57) ["_law_cell", "_law_kind_here"] := by
    have F := fun_mk (st := topS 57) l36 c36 k36
    exact ⟨_, _, F, PySem.W.mg_of X G a36, F.binds fun _ _ _ _ _ _ us hl => match us, hl with | [_, _], _ => rfl⟩
  have D37 : DefAt K mg "_law_bound" (topS 58) ["_law_cell", "_law_kind_here"] := by
    have F := fun_mk (st := topS 58) l37 c37 k37
    exact ⟨_, _, F, PySem.W.mg_of X G a37, F.binds fun _ _ _ _ _ _ us hl => match us, hl with | [_, _], _ => rfl⟩
  have D38 : DefAt K mg "_law_tops" (topS 59) ["_law_script"] := by
    have F := fun_mk (st := topS 59) l38 c38 k38
    exact ⟨_, _, F, PySem.W.mg_of X G a38, F.binds fun _ _ _ _ _ _ us hl => match us, hl with | [_], _ => rfl⟩
  have D39 : DefAt K mg "_law_kind" (topS 60) ["_law_script"] := by
    have F := fun_mk (st := topS 60) l39 c39 k39
    exact ⟨_, _, F, PySem.W.mg_of X G a39, F.binds fun _ _ _ _ _ _ us hl => match us, hl with | [_], _ => rfl⟩
  have D40 : DefAt K mg "_law_gain" (topS 61) ["_law_script"] := by
    have F := fun_mk (st := topS 61) l40 c40 k40
    exact ⟨_, _, F, PySem.W.mg_of X G a40, F.binds fun _ _ _ _ _ _ us hl => match us, hl with | [_], _ => rfl⟩
  have D41 : DefAt K mg "_law_rows" (topS 62) ["_law_script"] := by
    have F := fun_mk (st := topS 62) l41 c41 k41
    exact ⟨_, _, F, PySem.W.mg_of X G a41, F.binds fun _ _ _ _ _ _ us hl => match us, hl with | [_], _ => rfl⟩
  have D42 : DefAt K mg "_law_sum" (topS 63) ["_law_numbers", "_law_point"] := by
    have F := fun_mk (st := topS 63) l42 c42 k42
    exact ⟨_, _, F, PySem.W.mg_of X G a42, F.binds fun _ _ _ _ _ _ us hl => match us, hl with | [_, _], _ => rfl⟩
  have D43 : DefAt K mg "_law_meets" (topS 64) ["_law_tops_here", "_law_rows_here", "_law_point"] := by
    have F := fun_mk (st := topS 64) l43 c43 k43
    exact ⟨_, _, F, PySem.W.mg_of X G a43, F.binds fun _ _ _ _ _ _ us hl => match us, hl with | [_, _, _], _ => rfl⟩
  have D44 : DefAt K mg "_law_gain_of" (topS 65) ["_law_tops_here", "_law_rows_here", "_law_gain_here"] := by
    have F := fun_mk (st := topS 65) l44 c44 k44
    exact ⟨_, _, F, PySem.W.mg_of X G a44, F.binds fun _ _ _ _ _ _ us hl => match us, hl with | [_, _, _], _ => rfl⟩
  have D45 : DefAt K mg "law" (topS 66) ["_law_script"] := by
    have F := fun_mk (st := topS 66) l45 c45 k45
    exact ⟨_, _, F, PySem.W.mg_of X G a45, F.binds fun _ _ _ _ _ _ us hl => match us, hl with | [_], _ => rfl⟩
  have FM0 := fun_mk (st := inClass (topS 27) 1) lM0 qM0 kM0
  have BM0 : Binds K _ ["self"] [] := FM0.binds fun _ _ _ _ _ _ us hl => match us, hl with | [_], _ => rfl
  have MM0 : MethAt K C1 "missed_row" "Corner.missed_row" (inClass (topS 27) 1) ["self"] := ⟨_, _, FM0, ⟨aM0, iM0, kM0⟩, BM0⟩
  have MC0 : MethC K C1 "missed_row" "Corner.missed_row" (inClass (topS 27) 1) ["self"] cM0 := ⟨_, _, _, _, _, _, _, _, _, lM0, qM0, ⟨aM0, iM0, kM0⟩, BM0⟩
  have FM1 := fun_mk (st := inClass (topS 27) 2) lM1 qM1 kM1
  have BM1 : Binds K _ ["self", "row"] [] := FM1.binds fun _ _ _ _ _ _ us hl => match us, hl with | [_, _], _ => rfl
  have MM1 : MethAt K C1 "column_for" "Corner.column_for" (inClass (topS 27) 2) ["self", "row"] := ⟨_, _, FM1, ⟨aM1, iM1, kM1⟩, BM1⟩
  have MC1 : MethC K C1 "column_for" "Corner.column_for" (inClass (topS 27) 2) ["self", "row"] cM1 := ⟨_, _, _, _, _, _, _, _, _, lM1, qM1, ⟨aM1, iM1, kM1⟩, BM1⟩
  have FM2 := fun_mk (st := inClass (topS 27) 3) lM2 qM2 kM2
  have BM2 : Binds K _ ["self", "row", "column"] [] := FM2.binds fun _ _ _ _ _ _ us hl => match us, hl with | [_, _, _], _ => rfl
  have MM2 : MethAt K C1 "move" "Corner.move" (inClass (topS 27) 3) ["self", "row", "column"] := ⟨_, _, FM2, ⟨aM2, iM2, kM2⟩, BM2⟩
  have FM3 := fun_mk (st := inClass (topS 27) 4) lM3 qM3 kM3
  have BM3 : Binds K _ ["self", "problem", "box"] [] := FM3.binds fun _ _ _ _ _ _ us hl => match us, hl with | [_, _, _], _ => rfl
  have MM3 : MethAt K C1 "numbers" "Corner.numbers" (inClass (topS 27) 4) ["self", "problem", "box"] := ⟨_, _, FM3, ⟨aM3, iM3, kM3⟩, BM3⟩
  have FM4 := fun_mk (st := inClass (topS 27) 5) lM4 qM4 kM4
  have BM4 : Binds K _ ["self"] [] := FM4.binds fun _ _ _ _ _ _ us hl => match us, hl with | [_], _ => rfl
  have MM4 : MethAt K C1 "gain_weights" "Corner.gain_weights" (inClass (topS 27) 5) ["self"] := ⟨_, _, FM4, ⟨aM4, iM4, kM4⟩, BM4⟩
  have FM5 := fun_mk (st := inClass (topS 27) 6) lM5 qM5 kM5
  have BM5 : Binds K _ ["self", "row"] [] := FM5.binds fun _ _ _ _ _ _ us hl => match us, hl with | [_, _], _ => rfl
  have MM5 : MethAt K C1 "none_weights" "Corner.none_weights" (inClass (topS 27) 6) ["self", "row"] := ⟨_, _, FM5, ⟨aM5, iM5, kM5⟩, BM5⟩
  have FM6 := fun_mk (st := inClass (topS 27) 7) lM6 qM6 kM6
  have BM6 : Binds K _ ["self", "line"] [] := FM6.binds fun _ _ _ _ _ _ us hl => match us, hl with | [_, _], _ => rfl
  have MM6 : MethAt K C1 "weights" "Corner.weights" (inClass (topS 27) 7) ["self", "line"] := ⟨_, _, FM6, ⟨aM6, iM6, kM6⟩, BM6⟩
  have T : Top K mg (fun n => match n with | 0 => x0 | 1 => x1 | 2 => x2 | 3 => x3 | _ => x4) (fun n => match n with | 0 => C | _ => C1) :=
    { n_all := PySem.W.mg_none_of X G n_all,
      n_bool := PySem.W.mg_none_of X G n_bool,
      n_enumerate := PySem.W.mg_none_of X G n_enumerate,
      n_int := PySem.W.mg_none_of X G n_int,
      n_isinstance := PySem.W.mg_none_of X G n_isinstance,
      n_len := PySem.W.mg_none_of X G n_len,
      n_list := PySem.W.mg_none_of X G n_list,
      n_max := PySem.W.mg_none_of X G n_max,
      n_min := PySem.W.mg_none_of X G n_min,
      n_range := PySem.W.mg_none_of X G n_range,
      n_sorted := PySem.W.mg_none_of X G n_sorted,
      n_str := PySem.W.mg_none_of X G n_str,
      n_sum := PySem.W.mg_none_of X G n_sum,
      n_tuple := PySem.W.mg_none_of X G n_tuple,
      n_zip := PySem.W.mg_none_of X G n_zip,
      m_gcd := PySem.W.mg_of X G m_gcd,
      i_MOST_UNKNOWNS := ⟨_, PySem.W.mg_of X G i_MOST_UNKNOWNS⟩,
      i_GREATEST_TOP := ⟨_, PySem.W.mg_of X G i_GREATEST_TOP⟩,
      i_MOST_ROWS := ⟨_, PySem.W.mg_of X G i_MOST_ROWS⟩,
      i_GREATEST_NUMBER := ⟨_, PySem.W.mg_of X G i_GREATEST_NUMBER⟩,
      i_GREATEST_BOUND := ⟨_, PySem.W.mg_of X G i_GREATEST_BOUND⟩,
      e_CutError := ⟨PySem.W.mg_of X G xg0, xk0, xx0, xb0, xt0⟩,
      e_BadProblem := ⟨PySem.W.mg_of X G xg1, xk1, xx1, xb1, xt1⟩,
      e_BadPoint := ⟨PySem.W.mg_of X G xg2, xk2, xx2, xb2, xt2⟩,
      e_BadBox := ⟨PySem.W.mg_of X G xg3, xk3, xx3, xb3, xt3⟩,
      e_NoTurn := ⟨PySem.W.mg_of X G xg4, xk4, xx4, xb4, xt4⟩,
      cl0 := ⟨pg, hd, po, sa⟩,
      mc_Problem := PySem.W.mg_of X G aC,
      na_tops := na_tops,
      na_rows := na_rows,
      na_gain := na_gain,
      cl1 := ⟨pg1, hd1, po1, sa1⟩,
      mc_Corner := PySem.W.mg_of X G a1C,
      na_tight := na1_tight,
      na_others := na1_others,
      na_table := na1_table,
      na_scale := na1_scale,
      d_is_whole := D0,
      d_is_within := D1,
      d_are_within := D2,
      d_products_sum := D3,
      d_whole_box := D4,
      d_facts := D5,
      d_row_fact := D6,
      d_only := D7,
      d_check_box := D8,
      d_is_box := D9,
      d_is_span := D10,
      d_turned := D11,
      d_about_row := D12,
      d_other_row := D13,
      d_reduced := D14,
      d_loose := D15,
      d_slack_line := D16,
      d_gain_line := D17,
      d_is_problem := D18,
      d_are_tops := D19,
      d_are_rows := D20,
      d_is_row := D21,
      d_is_word := D22,
      d_is_gain := D23,
      d_are_numbers := D24,
      d_is_point := D25,
      d_check_point := D26,
      d_gained := D27,
      d_solved := D28,
      d_grown := D29,
      d_broken_unknown := D30,
      d_box_below := D31,
      d_box_above := D32,
      d_with_span := D33,
      d__law_cell_at := D34,
      d__law_whole := D35,
      d__law_number := D36,
      d__law_bound := D37,
      d__law_tops := D38,
      d__law_kind := D39,
      d__law_gain := D40,
      d__law_rows := D41,
      d__law_sum := D42,
      d__law_meets := D43,
      d__law_gain_of := D44,
      d_law := D45,
      me_Corner_missed_row := MM0,
      me_Corner_column_for := MM1,
      me_Corner_move := MM2,
      me_Corner_numbers := MM3,
      me_Corner_gain_weights := MM4,
      me_Corner_none_weights := MM5,
      me_Corner_weights := MM6 }
  have FI := fun_mk (st := st_init) lI cI kI
  have bI : Binds K _ ["self", "tops", "rows", "gain"] [] := FI.binds fun _ _ _ _ _ _ us hl => match us, hl with | [_, _, _, _], _ => rfl
  have M : Mk K C fI := ⟨mkC, aI, iI, kC⟩
  have FJ := fun_mk (st := inClass (topS 27) 0) l1I c1I k1I
  have RR : ∀ base : Heap, (∀ p ∈ [(cM0, PM0), (cM1, PM1)], LamX.TabB base mg p.1 p.2) → CorT K base mg (fun n => match n with | 0 => C | _ => C1) [(PM0, "Corner.missed_row.<locals>.<lambda>"), (PM1, "Corner.column_for.<locals>.<lambda>")] := fun base TB =>
    ⟨⟨_, _, FJ, ⟨mkC1, a1I, i1I, kC1⟩, FJ.binds fun _ _ _ _ _ _ us hl => match us, hl with | [_, _, _], _ => rfl⟩, MM2,
      ⟨cM0, PM0, MC0, ⟨TB _ List.mem_cons_self, List.mem_cons_self, fun p hp e => (List.mem_cons.mp hp).elim (fun z => by rw [z]) fun z => absurd ((congrArg Prod.fst (List.mem_singleton.mp z)).symm.trans e).symm neP⟩⟩,
      ⟨cM1, PM1, MC1, ⟨TB _ (List.mem_cons_of_mem _ List.mem_cons_self), List.mem_cons_of_mem _ List.mem_cons_self, fun p hp e => (List.mem_cons.mp hp).elim (fun z => absurd ((congrArg Prod.fst z).symm.trans e) neP) fun z => by rw [List.mem_singleton.mp z]⟩⟩⟩
  refine ⟨_, [(cM0, PM0), (cM1, PM1)], spLawT K [(PM0, "Corner.missed_row.<locals>.<lambda>"), (PM1, "Corner.column_for.<locals>.<lambda>")], List.forall_mem_cons.mpr ⟨tM0, List.forall_mem_cons.mpr ⟨tM1, List.forall_mem_nil _⟩⟩, List.forall_mem_cons.mpr ⟨nM0, List.forall_mem_cons.mpr ⟨nM1, List.forall_mem_nil _⟩⟩,
    List.forall_mem_cons.mpr ⟨PySem.W.codeHd_of_K X hM0, List.forall_mem_cons.mpr ⟨PySem.W.codeHd_of_K X hM1, List.forall_mem_nil _⟩⟩, fun s v => .of_eq rfl,
    fun H a ns hl _ hH hS => ⟨a, ns, rfl, hS, hl, List.forall_mem_cons.mpr ⟨LamX.TabS.nil (hH _ List.mem_cons_self), List.forall_mem_cons.mpr ⟨LamX.TabS.nil (hH _ (List.mem_cons_of_mem _ List.mem_cons_self)), List.forall_mem_nil _⟩⟩, fun _ => rfl⟩, fun base _ _ TB => law_ok T (RR base TB) (mk_Problem T FI M bI) (fun_mk (st := topS 66) l45 c45 k45) fun ns hl => law_true ns hl⟩
theorem walk {l : PySem.W.OpenLaw} {q : Program} {loose : List Str} {XP : (Str → Option Value) → Heap → Prop} {YP : World → Heap → Prop} {d : DefRec} {K : Params → PySem.W.Frag} (hn : l.most = some 63) (hdf : d.params.defaults = [])
    (hY : ∀ (w : World) (h : Heap), YP w h → (K w.params).In h)
    (F : ∀ (w : World) (mg : Str → Option Value) (fa : Addr) (h : Heap), YP w h → (K w.params).In h → h.Ns mainGlobals mg → mg d.name = some (.ref fa) → LamX.LawAtS l w (K w.params) (L2.CX l.prog w) 80 63 "_law_script" mg fa h) :
    PySem.W.WalkO q loose XP YP l.row.toRowW d [] (fun f vs => PySem.call f vs) :=
  LamX.walk_ofTs (n := 63) (k := 80) (x := "_law_script") (CX := fun w => L2.CX l.prog w) hn (by decide) hdf ⟨rfl, by decide, by decide⟩ hY F fun _ _ _ _ _ z => by
    obtain ⟨_, _, _, _, _, _, _, _, _, _, _, _, z⟩ := z
    exact z
end K11

set_option Elab.async false
set_option linter.all false
set_option maxRecDepth 100000
open PySem PySem.W PyProof.Rows in
set_option maxRecDepth 100000 in
set_option maxHeartbeats 0 in
theorem PySem.Challenge.cw_wholecut_k11_halves_holds : PySem.Challenge.rw_wholecut_k11_halves.Holds := by
  w_on; o_law; k_head; (case hw => w_witness2)
  k_fill
  refine K11.walk (l := PySem.Challenge.rw_wholecut_k11_halves) rfl rfl (fun w h Y => PySem.W.km_in_of Y) ?F
  case F =>
    intro w mg fa h Y KX G hmg
    refine' K11.all_mk KX G hmg ?a0 ?l0 ?c0 ?k0 ?a1 ?l1 ?c1 ?k1 ?a2 ?l2 ?c2 ?k2 ?a3 ?l3 ?c3 ?k3 ?a4 ?l4 ?c4 ?k4 ?a5 ?l5 ?c5 ?k5 ?a6 ?l6 ?c6 ?k6 ?a7 ?l7 ?c7 ?k7 ?a8 ?l8 ?c8 ?k8 ?a9 ?l9 ?c9 ?k9 ?a10 ?l10 ?c10 ?k10 ?a11 ?l11 ?c11 ?k11 ?a12 ?l12 ?c12 ?k12 ?a13 ?l13 ?c13 ?k13 ?a14 ?l14 ?c14 ?k14 ?a15 ?l15 ?c15 ?k15 ?a16 ?l16 ?c16 ?k16 ?a17 ?l17 ?c17 ?k17 ?a18 ?l18 ?c18 ?k18 ?a19 ?l19 ?c19 ?k19 ?a20 ?l20 ?c20 ?k20 ?a21 ?l21 ?c21 ?k21 ?a22 ?l22 ?c22 ?k22 ?a23 ?l23 ?c23 ?k23 ?a24 ?l24 ?c24 ?k24 ?a25 ?l25 ?c25 ?k25 ?a26 ?l26 ?c26 ?k26 ?a27 ?l27 ?c27 ?k27 ?a28 ?l28 ?c28 ?k28 ?a29 ?l29 ?c29 ?k29 ?a30 ?l30 ?c30 ?k30 ?a31 ?l31 ?c31 ?k31 ?a32 ?l32 ?c32 ?k32 ?a33 ?l33 ?c33 ?k33 ?a34 ?l34 ?c34 ?k34 ?a35 ?l35 ?c35 ?k35 ?a36 ?l36 ?c36 ?k36 ?a37 ?l37 ?c37 ?k37 ?a38 ?l38 ?c38 ?k38 ?a39 ?l39 ?c39 ?k39 ?a40 ?l40 ?c40 ?k40 ?a41 ?l41 ?c41 ?k41 ?a42 ?l42 ?c42 ?k42 ?a43 ?l43 ?c43 ?k43 ?a44 ?l44 ?c44 ?k44 ?a45 ?l45 ?c45 ?k45 ?aC ?aI ?iI ?lI ?cI ?kI ?pg ?hd ?po ?sa ?mkC ?kC ?na_tops ?na_rows ?na_gain ?a1C ?a1I ?i1I ?l1I ?c1I ?k1I ?pg1 ?hd1 ?po1 ?sa1 ?mkC1 ?kC1 ?na1_tight ?na1_others ?na1_table ?na1_scale ?aM0 ?iM0 ?lM0 ?qM0 ?kM0 ?oM0 ?vM0 ?hM0 ?nM0 ?tM0 ?aM1 ?iM1 ?lM1 ?qM1 ?kM1 ?oM1 ?vM1 ?hM1 ?nM1 ?tM1 ?aM2 ?iM2 ?lM2 ?qM2 ?kM2 ?aM3 ?iM3 ?lM3 ?qM3 ?kM3 ?aM4 ?iM4 ?lM4 ?qM4 ?kM4 ?aM5 ?iM5 ?lM5 ?qM5 ?kM5 ?aM6 ?iM6 ?lM6 ?qM6 ?kM6 ?neP ?xg0 ?xk0 ?xx0 ?xb0 ?xt0 ?xg1 ?xk1 ?xx1 ?xb1 ?xt1 ?xg2 ?xk2 ?xx2 ?xb2 ?xt2 ?xg3 ?xk3 ?xx3 ?xb3 ?xt3 ?xg4 ?xk4 ?xx4 ?xb4 ?xt4 ?i_MOST_UNKNOWNS ?i_GREATEST_TOP ?i_MOST_ROWS ?i_GREATEST_NUMBER ?i_GREATEST_BOUND ?m_gcd ?n_all ?n_bool ?n_enumerate ?n_int ?n_isinstance ?n_len ?n_list ?n_max ?n_min ?n_range ?n_sorted ?n_str ?n_sum ?n_tuple ?n_zip
    (case a0 => k_is)
    (case l0 => k_is)
    (case c0 => k_is)
    (case k0 => k_is)
    (case a1 => k_is)
    (case l1 => k_is)
    (case c1 => k_is)
    (case k1 => k_is)
    (case a2 => k_is)
    (case l2 => k_is)
    (case c2 => k_is)
    (case k2 => k_is)
    (case a3 => k_is)
    (case l3 => k_is)
    (case c3 => k_is)
    (case k3 => k_is)
    (case a4 => k_is)
    (case l4 => k_is)
    (case c4 => k_is)
    (case k4 => k_is)
    (case a5 => k_is)
    (case l5 => k_is)
    (case c5 => k_is)
    (case k5 => k_is)
    (case a6 => k_is)
    (case l6 => k_is)
    (case c6 => k_is)
    (case k6 => k_is)
    (case a7 => k_is)
    (case l7 => k_is)
    (case c7 => k_is)
    (case k7 => k_is)
    (case a8 => k_is)
    (case l8 => k_is)
    (case c8 => k_is)
    (case k8 => k_is)
    (case a9 => k_is)
    (case l9 => k_is)
    (case c9 => k_is)
    (case k9 => k_is)
    (case a10 => k_is)
    (case l10 => k_is)
    (case c10 => k_is)
    (case k10 => k_is)
    (case a11 => k_is)
    (case l11 => k_is)
    (case c11 => k_is)
    (case k11 => k_is)
    (case a12 => k_is)
    (case l12 => k_is)
    (case c12 => k_is)
    (case k12 => k_is)
    (case a13 => k_is)
    (case l13 => k_is)
    (case c13 => k_is)
    (case k13 => k_is)
    (case a14 => k_is)
    (case l14 => k_is)
    (case c14 => k_is)
    (case k14 => k_is)
    (case a15 => k_is)
    (case l15 => k_is)
    (case c15 => k_is)
    (case k15 => k_is)
    (case a16 => k_is)
    (case l16 => k_is)
    (case c16 => k_is)
    (case k16 => k_is)
    (case a17 => k_is)
    (case l17 => k_is)
    (case c17 => k_is)
    (case k17 => k_is)
    (case a18 => k_is)
    (case l18 => k_is)
    (case c18 => k_is)
    (case k18 => k_is)
    (case a19 => k_is)
    (case l19 => k_is)
    (case c19 => k_is)
    (case k19 => k_is)
    (case a20 => k_is)
    (case l20 => k_is)
    (case c20 => k_is)
    (case k20 => k_is)
    (case a21 => k_is)
    (case l21 => k_is)
    (case c21 => k_is)
    (case k21 => k_is)
    (case a22 => k_is)
    (case l22 => k_is)
    (case c22 => k_is)
    (case k22 => k_is)
    (case a23 => k_is)
    (case l23 => k_is)
    (case c23 => k_is)
    (case k23 => k_is)
    (case a24 => k_is)
    (case l24 => k_is)
    (case c24 => k_is)
    (case k24 => k_is)
    (case a25 => k_is)
    (case l25 => k_is)
    (case c25 => k_is)
    (case k25 => k_is)
    (case a26 => k_is)
    (case l26 => k_is)
    (case c26 => k_is)
    (case k26 => k_is)
    (case a27 => k_is)
    (case l27 => k_is)
    (case c27 => k_is)
    (case k27 => k_is)
    (case a28 => k_is)
    (case l28 => k_is)
    (case c28 => k_is)
    (case k28 => k_is)
    (case a29 => k_is)
    (case l29 => k_is)
    (case c29 => k_is)
    (case k29 => k_is)
    (case a30 => k_is)
    (case l30 => k_is)
    (case c30 => k_is)
    (case k30 => k_is)
    (case a31 => k_is)
    (case l31 => k_is)
    (case c31 => k_is)
    (case k31 => k_is)
    (case a32 => k_is)
    (case l32 => k_is)
    (case c32 => k_is)
    (case k32 => k_is)
    (case a33 => k_is)
    (case l33 => k_is)
    (case c33 => k_is)
    (case k33 => k_is)
    (case a34 => k_is)
    (case l34 => k_is)
    (case c34 => k_is)
    (case k34 => k_is)
    (case a35 => k_is)
    (case l35 => k_is)
    (case c35 => k_is)
    (case k35 => k_is)
    (case a36 => k_is)
    (case l36 => k_is)
    (case c36 => k_is)
    (case k36 => k_is)
    (case a37 => k_is)
    (case l37 => k_is)
    (case c37 => k_is)
    (case k37 => k_is)
    (case a38 => k_is)
    (case l38 => k_is)
    (case c38 => k_is)
    (case k38 => k_is)
    (case a39 => k_is)
    (case l39 => k_is)
    (case c39 => k_is)
    (case k39 => k_is)
    (case a40 => k_is)
    (case l40 => k_is)
    (case c40 => k_is)
    (case k40 => k_is)
    (case a41 => k_is)
    (case l41 => k_is)
    (case c41 => k_is)
    (case k41 => k_is)
    (case a42 => k_is)
    (case l42 => k_is)
    (case c42 => k_is)
    (case k42 => k_is)
    (case a43 => k_is)
    (case l43 => k_is)
    (case c43 => k_is)
    (case k43 => k_is)
    (case a44 => k_is)
    (case l44 => k_is)
    (case c44 => k_is)
    (case k44 => k_is)
    (case a45 => k_is)
    (case l45 => k_is)
    (case c45 => k_is)
    (case k45 => k_is)
    (case aC => k_is)
    (case aI => k_is)
    (case iI => k_is)
    (case lI => k_is)
    (case cI => k_is)
    (case kI => k_is)
    (case pg => k_is)
    (case hd => k_is)
    (case po => k_is)
    (case sa => k_is)
    (case mkC => k_is)
    (case kC => k_is)
    (case na_tops => k_is)
    (case na_rows => k_is)
    (case na_gain => k_is)
    (case a1C => k_is)
    (case a1I => k_is)
    (case i1I => k_is)
    (case l1I => k_is)
    (case c1I => k_is)
    (case k1I => k_is)
    (case pg1 => k_is)
    (case hd1 => k_is)
    (case po1 => k_is)
    (case sa1 => k_is)
    (case mkC1 => k_is)
    (case kC1 => k_is)
    (case na1_tight => k_is)
    (case na1_others => k_is)
    (case na1_table => k_is)
    (case na1_scale => k_is)
    (case aM0 => k_is)
    (case iM0 => k_is)
    (case lM0 => k_is)
    (case qM0 => k_is)
    (case kM0 => k_is)
    (case oM0 => k_is)
    (case vM0 => rfl)
    (case hM0 => kernel_rfl)
    (case nM0 => kernel_rfl)
    (case tM0 => exact PySem.W.km_tabs_of Y _ (by k_mem))
    (case aM1 => k_is)
    (case iM1 => k_is)
    (case lM1 => k_is)
    (case qM1 => k_is)
    (case kM1 => k_is)
    (case oM1 => k_is)
    (case vM1 => rfl)
    (case hM1 => kernel_rfl)
    (case nM1 => kernel_rfl)
    (case tM1 => exact PySem.W.km_tabs_of Y _ (by k_mem))
    (case aM2 => k_is)
    (case iM2 => k_is)
    (case lM2 => k_is)
    (case qM2 => k_is)
    (case kM2 => k_is)
    (case aM3 => k_is)
    (case iM3 => k_is)
    (case lM3 => k_is)
    (case qM3 => k_is)
    (case kM3 => k_is)
    (case aM4 => k_is)
    (case iM4 => k_is)
    (case lM4 => k_is)
    (case qM4 => k_is)
    (case kM4 => k_is)
    (case aM5 => k_is)
    (case iM5 => k_is)
    (case lM5 => k_is)
    (case qM5 => k_is)
    (case kM5 => k_is)
    (case aM6 => k_is)
    (case iM6 => k_is)
    (case lM6 => k_is)
    (case qM6 => k_is)
    (case kM6 => k_is)
    (case neP => decide)
    (case xg0 => k_is)
    (case xk0 => k_is)
    (case xx0 => k_exc)
    (case xb0 => k_is)
    (case xt0 => k_is)
    (case xg1 => k_is)
    (case xk1 => k_is)
    (case xx1 => k_exc)
    (case xb1 => k_is)
    (case xt1 => k_is)
    (case xg2 => k_is)
    (case xk2 => k_is)
    (case xx2 => k_exc)
    (case xb2 => k_is)
    (case xt2 => k_is)
    (case xg3 => k_is)
    (case xk3 => k_is)
    (case xx3 => k_exc)
    (case xb3 => k_is)
    (case xt3 => k_is)
    (case xg4 => k_is)
    (case xk4 => k_is)
    (case xx4 => k_exc)
    (case xb4 => k_is)
    (case xt4 => k_is)
    (case i_MOST_UNKNOWNS => k_is)
    (case i_GREATEST_TOP => k_is)
    (case i_MOST_ROWS => k_is)
    (case i_GREATEST_NUMBER => k_is)
    (case i_GREATEST_BOUND => k_is)
    (case m_gcd => k_is)
    (case n_all => k_is)
    (case n_bool => k_is)
    (case n_enumerate => k_is)
    (case n_int => k_is)
    (case n_isinstance => k_is)
    (case n_len => k_is)
    (case n_list => k_is)
    (case n_max => k_is)
    (case n_min => k_is)
    (case n_range => k_is)
    (case n_sorted => k_is)
    (case n_str => k_is)
    (case n_sum => k_is)
    (case n_tuple => k_is)
    (case n_zip => k_is)

