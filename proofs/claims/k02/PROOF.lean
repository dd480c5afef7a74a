import PyProof.Rows.All
import HandS.ForMost
import HandS.Exc
import HandS.TryOnly
import HandS.ExcOwn
import HandS.ExcIs
import HandS.WordsExc
import HandS.IsInst
import HandS.Wide
import HandS.TupMul
import HandS.Lambda
import HandS.Zip
import KE.GoesZip
import KE.GoesMore
import HandS.Gcd
import KE.DataMinKey
import KE.SortKeyHeap
import HandS.Conv
import HandS.Iter
import HandS.DictComp
import HandS.HotCalls
import PySem.Challenge.RW_wholecut_k02_rows_written
import HandS.Codes
import KE.GoesComp
import Wide.All
import OpenK.AllK
import Wide.FinOn
set_option Elab.async false
set_option linter.all false
set_option maxRecDepth 100000
/-! Values by their data: what stands at a value in an abstract heap; states by the data of their slots. -/
namespace Fn
open PySem PySem.Spec L2

abbrev D := PyData
/-- a list that is only read (the script, a module's own) -/
abbrev D.ro (ds : List D) : D := .dict [(.none, .list ds)]
/-- a dict of whole numbers -/
abbrev D.dc (kvs : List (Int × Int)) : D := .dict ((.bool false, .none) :: kvs.map fun p => (.int p.1, .int p.2))
/-- the reference itself, whatever stands there -/
abbrev D.ad (a : Addr) : D := .dict [(.str Str.empty, .int (Int.ofNat a))]
/-- an instance of the k-th class -/
abbrev D.ob (k : Nat) (gs : List (D × D)) : D := .dict ((.bool true, .int k) :: gs)

section rep
variable (K : PySem.W.Frag) (cls : Nat → Addr)
mutual
inductive Rep (H : Hp) : V → D → Prop
  | non : Rep H .non .none
  | bl (b : Bool) : Rep H (.bl b) (.bool b)
  | int (i : Int) : Rep H (.int i) (.int i)
  | str (x : Str) : Rep H (.str x) (.str x)
  | ls {a : Addr} {xs : List V} {ds : List D} : H a = some (.lst xs) → RepL H xs ds → Rep H (.ref a) (.list ds)
  | ro {a : Addr} {xs : List V} {ds : List D} : SqL K H a xs → RepL H xs ds → Rep H (.ref a) (D.ro ds)
  | tp {a : Addr} {xs : List V} {ds : List D} : SqT K H a xs → RepL H xs ds → Rep H (.ref a) (.tuple ds)
  | ob {a dx : Addr} {k : Nat} {fs : List (Str × V)} {gs : List (D × D)} : H a = some (.ins (cls k) dx fs) → RepF H fs gs → Rep H (.ref a) (D.ob k gs)
  | dc {a : Addr} {kvs : List (Int × Int)} : H a = some (.dK (kvs.map fun p => (Sum.inl p.1, V.int p.2))) → Rep H (.ref a) (D.dc kvs)
  | ad (a : Addr) : Rep H (.ref a) (D.ad a)
inductive RepL (H : Hp) : List V → List D → Prop
  | nil : RepL H [] []
  | cons {v : V} {vs : List V} {d : D} {ds : List D} : Rep H v d → RepL H vs ds → RepL H (v :: vs) (d :: ds)
inductive RepF (H : Hp) : List (Str × V) → List (D × D) → Prop
  | nil : RepF H [] []
  | cons {n : Str} {v : V} {vs : List (Str × V)} {d : D} {ds : List (D × D)} : Rep H v d → RepF H vs ds → RepF H ((n, v) :: vs) ((.str n, d) :: ds)
end
end rep

theorem Same.tup {K : PySem.W.Frag} {H H' : Hp} {a : Addr} {xs : List V} (e : Same H H') (h : SqT K H a xs) : SqT K H' a xs := by
  rcases h with (h | ⟨o, h⟩) | h
  · exact .inl (.inl (e _ _ h))
  · exact .inl (.inr ⟨o, e _ _ h⟩)
  · exact .inr h

section
variable {K : PySem.W.Frag} {cls : Nat → Addr} {F F' : Hp}
mutual
theorem Rep.mono (e : Same F F') : ∀ {v : V} {d : D}, Rep K cls F v d → Rep K cls F' v d
  | _, _, .non => .non
  | _, _, .bl b => .bl b
  | _, _, .int i => .int i
  | _, _, .str x => .str x
  | _, _, .ls h r => .ls (e _ _ h) (RepL.mono e r)
  | _, _, .ro h r => .ro (e.seq h) (RepL.mono e r)
  | _, _, .tp h r => .tp (Same.tup e h) (RepL.mono e r)
  | _, _, .ob h r => .ob (e _ _ h) (RepF.mono e r)
  | _, _, .dc h => .dc (e _ _ h)
  | _, _, .ad a => .ad a
theorem RepL.mono (e : Same F F') : ∀ {vs : List V} {ds : List D}, RepL K cls F vs ds → RepL K cls F' vs ds
  | _, _, .nil => .nil
  | _, _, .cons h r => .cons (Rep.mono e h) (RepL.mono e r)
theorem RepF.mono (e : Same F F') : ∀ {vs : List (Str × V)} {ds : List (D × D)}, RepF K cls F vs ds → RepF K cls F' vs ds
  | _, _, .nil => .nil
  | _, _, .cons h r => .cons (Rep.mono e h) (RepF.mono e r)
end
end
section
variable {K : PySem.W.Frag} {cls : Nat → Addr} {F : Hp}
theorem RepL.length : ∀ {vs : List V} {ds : List D}, RepL K cls F vs ds → vs.length = ds.length
  | _, _, .nil => rfl
  | _, _, .cons _ t => by rw [List.length_cons, List.length_cons, RepL.length t]
theorem RepL.get : ∀ {vs : List V} {ds : List D} {i : Nat} {d : D}, RepL K cls F vs ds → ds[i]? = some d → ∃ v, vs[i]? = some v ∧ Rep K cls F v d
  | _, _, _, _, .nil, h => by simp at h
  | _, _, 0, _, .cons r _, h => by simp at h; subst h; exact ⟨_, rfl, r⟩
  | _, _, i + 1, _, .cons _ t, h => by
    obtain ⟨v, h1, h2⟩ := RepL.get (i := i) t (by simpa using h)
    exact ⟨v, by simpa using h1, h2⟩
theorem RepL.getV : ∀ {vs : List V} {ds : List D} {i : Nat} {v : V}, RepL K cls F vs ds → vs[i]? = some v → ∃ d, ds[i]? = some d ∧ Rep K cls F v d
  | _, _, _, _, .nil, h => by simp at h
  | _, _, 0, _, .cons r _, h => by simp at h; subst h; exact ⟨_, rfl, r⟩
  | _, _, i + 1, _, .cons _ t, h => by
    obtain ⟨v, h1, h2⟩ := RepL.getV (i := i) t (by simpa using h)
    exact ⟨v, by simpa using h1, h2⟩
theorem RepL.append : ∀ {xs ys : List V} {ds es : List D}, RepL K cls F xs ds → RepL K cls F ys es → RepL K cls F (xs ++ ys) (ds ++ es)
  | _, _, _, _, .nil, s => s
  | _, _, _, _, .cons r t, s => .cons r (RepL.append t s)
theorem RepL.take : ∀ (n : Nat) {xs : List V} {ds : List D}, RepL K cls F xs ds → RepL K cls F (xs.take n) (ds.take n)
  | 0, _, _, _ => by rw [List.take_zero, List.take_zero]; exact .nil
  | _ + 1, _, _, .nil => by rw [List.take_nil, List.take_nil]; exact .nil
  | n + 1, _, _, .cons r t => .cons r (RepL.take n t)
theorem RepL.drop : ∀ (n : Nat) {xs : List V} {ds : List D}, RepL K cls F xs ds → RepL K cls F (xs.drop n) (ds.drop n)
  | 0, _, _, r => r
  | _ + 1, _, _, .nil => by rw [List.drop_nil, List.drop_nil]; exact .nil
  | n + 1, _, _, .cons _ t => RepL.drop n t
theorem RepL.set (i : Nat) {v : V} {d : D} (r : Rep K cls F v d) : ∀ {xs : List V} {ds : List D}, RepL K cls F xs ds → RepL K cls F (xs.set i v) (ds.set i d)
  | _, _, .nil => .nil
  | _, _, .cons q t => by
    cases i with
    | zero => exact .cons r t
    | succ j => exact .cons q (RepL.set j r t)
theorem RepL.rep {xs : List V} {ds : List D} (h : RepL K cls F xs ds) : ∀ k : Nat, RepL K cls F (List.replicate k xs).flatten (List.replicate k ds).flatten
  | 0 => .nil
  | k + 1 => by
    rw [List.replicate_succ, List.replicate_succ, List.flatten_cons, List.flatten_cons]
    exact RepL.append h (RepL.rep h k)
theorem RepL.reverse : ∀ {xs : List V} {ds : List D}, RepL K cls F xs ds → RepL K cls F xs.reverse ds.reverse
  | _, _, .nil => .nil
  | _, _, .cons r t => by
    rw [List.reverse_cons, List.reverse_cons]
    exact RepL.append (RepL.reverse t) (.cons r .nil)
theorem RepL.ints : ∀ (ns : List Int), RepL K cls F (ns.map V.int) (ns.map PyData.int)
  | [] => .nil
  | n :: ns => .cons (.int n) (RepL.ints ns)
theorem RepL.of_ints : ∀ {vs : List V} (ns : List Int), RepL K cls F vs (ns.map PyData.int) → vs = ns.map V.int
  | _, [], h => by cases h; rfl
  | _, n :: ns, h => by
    cases h with
    | cons r t =>
      cases r
      rw [RepL.of_ints ns t]
      rfl
theorem RepL.of_bls : ∀ {vs : List V} (ns : List Bool), RepL K cls F vs (ns.map PyData.bool) → vs = ns.map V.bl
  | _, [], h => by cases h; rfl
  | _, n :: ns, h => by
    cases h with
    | cons r t =>
      cases r
      rw [RepL.of_bls ns t]
      rfl
end
/-- the field n of an instance's data -/
def fieldD (n : Str) : List (D × D) → Option D
  | [] => none
  | (.str m, d) :: r => if n == m then some d else fieldD n r
  | _ :: r => fieldD n r
section
variable {K : PySem.W.Frag} {cls : Nat → Addr} {F : Hp}
theorem RepF.lookup {n : Str} : ∀ {fs : List (Str × V)} {gs : List (D × D)} {d : D}, RepF K cls F fs gs → fieldD n gs = some d → ∃ v, fs.lookup n = some v ∧ Rep K cls F v d
  | _, _, _, .nil, h => by unfold fieldD at h; cases h
  | _, _, d, .cons (n := m) (v := v) (d := d') r t, h => by
    unfold fieldD at h
    rw [List.lookup_cons]
    cases e : n == m with
    | true =>
      rw [e, if_pos rfl] at h
      cases h
      exact ⟨v, rfl, r⟩
    | false =>
      rw [e, if_neg Bool.false_ne_true] at h
      exact RepF.lookup t h
end

/-! no instance, no read-only list within -/
mutual
def plainD : D → Bool
  | .none | .bool _ | .int _ | .str _ => true
  | .list xs | .tuple xs => plainAll xs
  | .dict _ => false
def plainAll : List D → Bool
  | [] => true
  | x :: xs => plainD x && plainAll xs
end
section
variable {K : PySem.W.Frag} {cls : Nat → Addr} {F : Hp}
mutual
theorem Rep.dp : ∀ {v : V} {d : D}, Rep K cls F v d → plainD d = true → Dp K F v d
  | _, _, .non, _ => .non
  | _, _, .bl b, _ => .bl b
  | _, _, .int i, _ => .int i
  | _, _, .str x, _ => .str x
  | _, _, .ls h r, p => .lst (SqL.of h) (RepL.dp r p)
  | _, _, .tp h r, p => .tup h (RepL.dp r p)
  | _, _, .ro _ _, p => by unfold plainD at p; cases p
  | _, _, .ob _ _, p => by unfold plainD at p; cases p
  | _, _, .dc _, p => by unfold plainD at p; cases p
  | _, _, .ad _, p => by unfold plainD at p; cases p
theorem RepL.dp : ∀ {vs : List V} {ds : List D}, RepL K cls F vs ds → plainAll ds = true → DpAll K F vs ds
  | _, _, .nil, _ => .nil
  | _, _, .cons r t, p => by
    unfold plainAll at p
    rw [Bool.and_eq_true] at p
    exact .cons (Rep.dp r p.1) (RepL.dp t p.2)
end
end

/-! ### heaps -/
/-- F (what never changes) and H (all that is tracked) have grown -/
structure Ext (F H F' H' : Hp) : Prop where
  f : Same F F'
  h : Same H H'
  s : Same F' H'
  n : ∀ a o, F' a = some o → F a = some o ∨ H a = none
theorem Ext.refl {F H : Hp} (s : Same F H) : Ext F H F H := ⟨Same.refl _, Same.refl _, s, fun _ _ e => .inl e⟩
theorem Ext.trans {F H F1 H1 F2 H2 : Hp} (a : Ext F H F1 H1) (b : Ext F1 H1 F2 H2) : Ext F H F2 H2 :=
  ⟨a.f.trans b.f, a.h.trans b.h, b.s, fun x o e => (b.n x o e).elim (fun q => a.n x o q) fun q => .inr (a.h.free q)⟩
theorem same_upd {H : Hp} {p : Addr} {o : HO} (h : H p = none) : Same H (upd H p o) := fun b x e => by
  rw [upd_ne (ne_of_none e h)]
  exact e
theorem Same.free2 {F H : Hp} (s : Same F H) {p : Addr} (h : H p = none) : F p = none := s.free h
theorem upd_some {H : Hp} {p a : Addr} {o u : HO} (h : upd H p o a = some u) : (a = p ∧ u = o) ∨ (a ≠ p ∧ H a = some u) := by
  by_cases e : a = p
  · subst e
    rw [upd_same] at h
    exact .inl ⟨rfl, (Option.some.inj h).symm⟩
  · rw [upd_ne e] at h
    exact .inr ⟨e, h⟩
/-- a new object for good -/
theorem Ext.new {F H : Hp} {p : Addr} {o : HO} (s : Same F H) (h : H p = none) : Ext F H (upd F p o) (upd H p o) :=
  ⟨same_upd (s.free h), same_upd h, fun b x e => by
    rcases upd_some e with ⟨rfl, rfl⟩ | ⟨n, e⟩
    · exact upd_same
    · rw [upd_ne n]; exact s _ _ e, fun a x e => by
    rcases upd_some e with ⟨rfl, rfl⟩ | ⟨n, e⟩
    · exact .inr h
    · exact .inl e⟩
/-- a new object that may change -/
theorem Ext.newO {F H : Hp} {p : Addr} {o : HO} (s : Same F H) (h : H p = none) : Ext F H F (upd H p o) :=
  ⟨Same.refl _, same_upd h, s.trans (same_upd h), fun _ _ e => .inl e⟩
/-- what stood in H alone is made to stay -/
theorem Ext.keep {F H F' H' : Hp} {p : Addr} {o : HO} (e : Ext F H F' H') (h : H p = none) (h' : H' p = some o) : Ext F H (upd F' p o) H' := by
  refine ⟨fun b x q => ?_, e.h, fun b x q => ?_, fun a x q => ?_⟩
  · by_cases z : b = p
    · subst z
      have := e.h
      have q' := e.s _ _ (e.f _ _ q)
      rw [h'] at q'
      cases q'
      exact upd_same
    · rw [upd_ne z]; exact e.f _ _ q
  · rcases upd_some q with ⟨rfl, rfl⟩ | ⟨n, q⟩
    · exact h'
    · exact e.s _ _ q
  · rcases upd_some q with ⟨rfl, rfl⟩ | ⟨n, q⟩
    · exact .inr h
    · exact e.n _ _ q

/-- a changed list is no table -/
theorem tabs_updL {T : List (Addr × Str)} {H : Hp} {a : Addr} {xs ys : List V} (h : H a = some (.lst xs)) (t : LamX.Tabs T H) : LamX.Tabs T (upd H a (.lst ys)) := fun p hp => by
  obtain ⟨ps, h1, h2, h3⟩ := t p hp
  have n1 : p.1 ≠ a := fun z => by rw [z, h] at h1; cases h1
  refine ⟨ps, by rw [upd_ne n1]; exact h1, h2, fun pos cv hc => ?_⟩
  obtain ⟨c, e1, e2⟩ := h3 pos cv hc
  have n2 : c ≠ a := fun z => by
    rw [z, h] at e2
    unfold LamX.CodeO at e2
    cases e2
  exact ⟨c, e1, by rw [upd_ne n2]; exact e2⟩
/-! ### states -/
abbrev Rho := List (Option D)
section
variable (K : PySem.W.Frag) (cls : Nat → Addr)
/-- slot i owns its list: it stands in H alone -/
def Ow (H0 : Hp) (σ : St) (H F : Hp) (i : Nat) (d : D) : Prop :=
  ∃ a xs ds, d = .list ds ∧ σ[i]? = some (some (V.ref a)) ∧ H a = some (.lst xs) ∧ RepL K cls F xs ds ∧ F a = none ∧ H0 a = none
structure Sim (B : Hp × Hp × List (Addr × Str)) (own : List Nat) (σ : St) (H F : Hp) (ρ : Rho) : Prop where
  b : Ext B.2.1 B.1 F H
  len : σ.length = ρ.length
  fro : ∀ i d, i ∉ own → ρ[i]? = some (some d) → ∃ v, σ[i]? = some (some v) ∧ Rep K cls F v d
  ow : ∀ i d, i ∈ own → ρ[i]? = some (some d) → Ow K cls B.1 σ H F i d
  sep : ∀ i j d e a, i ∈ own → j ∈ own → i ≠ j → ρ[i]? = some (some d) → ρ[j]? = some (some e) → σ[i]? = some (some (V.ref a)) → σ[j]? = some (some (V.ref a)) → False
  tb : LamX.Tabs B.2.2 H
  ft : ∀ p ∈ B.2.2, F p.1 = none
end
section
variable {K : PySem.W.Frag} {cls : Nat → Addr} {B : Hp × Hp × List (Addr × Str)} {own : List Nat} {σ : St} {H F H' F' : Hp} {ρ : Rho}
theorem Sim.s (S : Sim K cls B own σ H F ρ) : Same F H := S.b.s
theorem Sim.ext (S : Sim K cls B own σ H F ρ) (e : Ext F H F' H') : Sim K cls B own σ H' F' ρ where
  b := S.b.trans e
  len := S.len
  fro := fun i d hi h => by
    obtain ⟨v, h1, h2⟩ := S.fro i d hi h
    exact ⟨v, h1, h2.mono e.f⟩
  ow := fun i d hi h => by
    obtain ⟨a, xs, ds, h1, h2, h3, h4, h5, h6⟩ := S.ow i d hi h
    refine ⟨a, xs, ds, h1, h2, e.h _ _ h3, h4.mono e.f, ?_, h6⟩
    cases q : F' a with
    | none => rfl
    | some o =>
      rcases e.n a o q with z | z
      · rw [h5] at z; cases z
      · rw [h3] at z; cases z
  sep := S.sep
  tb := S.tb.ext e.h
  ft := fun p hp => by
    cases q : F' p.1 with
    | none => rfl
    | some o =>
      obtain ⟨ps, h1, _⟩ := S.tb p hp
      rcases e.n _ o q with z | z
      · rw [S.ft p hp] at z; cases z
      · rw [h1] at z; cases z
theorem get_set_ne {α : Type} {l : List α} {i j : Nat} {x : α} (h : i ≠ j) : (l.set i x)[j]? = l[j]? := List.getElem?_set_ne h
theorem get_set {α : Type} {l : List α} {i : Nat} {x y : α} (h : (l.set i x)[i]? = some y) : y = x ∧ i < l.length := by
  by_cases hl : i < l.length
  · rw [List.getElem?_set_self hl] at h
    exact ⟨(Option.some.inj h).symm, hl⟩
  · rw [List.getElem?_eq_none (by rw [List.length_set]; omega)] at h
    cases h
theorem Sim.set (S : Sim K cls B own σ H F ρ) (i : Nat) {v : V} {d : D} (r : Rep K cls F v d) : Sim K cls B (own.filter fun j => j != i) (σ.set i (some v)) H F (ρ.set i (some d)) where
  b := S.b
  len := by rw [List.length_set, List.length_set]; exact S.len
  fro := fun j e hj h => by
    by_cases q : i = j
    · subst q
      obtain ⟨h1, h2⟩ := get_set h
      cases h1
      exact ⟨v, by rw [List.getElem?_set_self (by rw [S.len]; exact h2)], r⟩
    · rw [get_set_ne q] at h ⊢
      exact S.fro j e (fun z => hj (List.mem_filter.mpr ⟨z, by simpa using fun z => q z.symm⟩)) h
  ow := fun j e hj h => by
    obtain ⟨h1, h2⟩ := List.mem_filter.mp hj
    have q : i ≠ j := fun z => by subst z; simp at h2
    rw [get_set_ne q] at h
    obtain ⟨a, xs, ds, k1, k2, k3⟩ := S.ow j e h1 h
    exact ⟨a, xs, ds, k1, by rw [get_set_ne q]; exact k2, k3⟩
  sep := fun j k e f a hj hk hne h1 h2 h3 h4 => by
    obtain ⟨m1, n1⟩ := List.mem_filter.mp hj
    obtain ⟨m2, n2⟩ := List.mem_filter.mp hk
    have q1 : i ≠ j := fun z => by subst z; simp at n1
    have q2 : i ≠ k := fun z => by subst z; simp at n2
    rw [get_set_ne q1] at h1 h3
    rw [get_set_ne q2] at h2 h4
    exact S.sep j k e f a m1 m2 hne h1 h2 h3 h4
  tb := S.tb
  ft := S.ft
/-- slot i now owns a list that no other slot owns -/
theorem Sim.setO (S : Sim K cls B own σ H F ρ) (i : Nat) {a : Addr} {xs : List V} {ds : List D} (h : H a = some (.lst xs)) (r : RepL K cls F xs ds) (hf : F a = none) (h0 : B.1 a = none)
    (apart : ∀ j b d, j ∈ own → j ≠ i → ρ[j]? = some (some d) → σ[j]? = some (some (V.ref b)) → b ≠ a) : Sim K cls B (i :: own.filter fun j => j != i) (σ.set i (some (.ref a))) H F (ρ.set i (some (.list ds))) where
  b := S.b
  len := by rw [List.length_set, List.length_set]; exact S.len
  fro := fun j e hj q => by
    have n1 : i ≠ j := fun z => hj (by subst z; exact List.mem_cons_self)
    rw [get_set_ne n1] at q ⊢
    exact S.fro j e (fun z => hj (List.mem_cons_of_mem _ (List.mem_filter.mpr ⟨z, by simpa using fun z => n1 z.symm⟩))) q
  ow := fun j e hj q => by
    by_cases n1 : i = j
    · subst n1
      obtain ⟨h1, h2⟩ := get_set q
      cases h1
      exact ⟨a, xs, ds, rfl, by rw [List.getElem?_set_self (by rw [S.len]; exact h2)], h, r, hf, h0⟩
    · have hj' : j ∈ own := by
        rcases List.mem_cons.mp hj with z | z
        · exact absurd z.symm n1
        · exact (List.mem_filter.mp z).1
      rw [get_set_ne n1] at q
      obtain ⟨b, ys, es, k1, k2, k3⟩ := S.ow j e hj' q
      exact ⟨b, ys, es, k1, by rw [get_set_ne n1]; exact k2, k3⟩
  sep := fun j k e f c hj hk hne h1 h2 h3 h4 => by
    have mem : ∀ {j}, j ∈ i :: own.filter (fun j => j != i) → i ≠ j → j ∈ own := fun {j} hj n1 => by
      rcases List.mem_cons.mp hj with z | z
      · exact absurd z.symm n1
      · exact (List.mem_filter.mp z).1
    by_cases n1 : i = j
    · subst n1
      rw [get_set_ne hne] at h2 h4
      obtain ⟨z1, z2⟩ := get_set h3
      cases z1
      exact apart k _ _ (mem hk hne) (Ne.symm hne) h2 h4 rfl
    · by_cases n2 : i = k
      · subst n2
        rw [get_set_ne n1] at h1 h3
        obtain ⟨z1, z2⟩ := get_set h4
        cases z1
        exact apart j _ _ (mem hj n1) (Ne.symm n1) h1 h3 rfl
      · rw [get_set_ne n1] at h1 h3
        rw [get_set_ne n2] at h2 h4
        exact S.sep j k e f c (mem hj n1) (mem hk n2) hne h1 h2 h3 h4
  tb := S.tb
  ft := S.ft
/-- an owned list changes -/
theorem Sim.mut (S : Sim K cls B own σ H F ρ) {i : Nat} (hi : i ∈ own) {ds : List D} (h : ρ[i]? = some (some (.list ds))) :
    ∃ a xs, σ[i]? = some (some (V.ref a)) ∧ H a = some (.lst xs) ∧ RepL K cls F xs ds ∧ ∀ ys es, RepL K cls F ys es → Sim K cls B own σ (upd H a (.lst ys)) F (ρ.set i (some (.list es))) := by
  obtain ⟨a, xs, ds', e, k2, k3, k4, k5, k6⟩ := S.ow i _ hi h
  cases e
  refine ⟨a, xs, k2, k3, k4, fun ys es r => ?_⟩
  have iy : i < ρ.length := by
    by_cases q : i < ρ.length
    · exact q
    · rw [List.getElem?_eq_none (by omega)] at h; cases h
  have sFH : Same F (upd H a (.lst ys)) := fun b o q => by
    have : b ≠ a := fun z => by rw [z, k5] at q; cases q
    rw [upd_ne this]; exact S.s _ _ q
  refine ⟨⟨S.b.f, fun b o q => ?_, sFH, S.b.n⟩, by rw [List.length_set]; exact S.len, fun j e hj q => ?_, fun j e hj q => ?_, fun j k e f c hj hk hne h1 h2 h3 h4 => ?_, tabs_updL k3 S.tb, S.ft⟩
  · have : b ≠ a := fun z => by rw [z, k6] at q; cases q
    rw [upd_ne this]; exact S.b.h _ _ q
  · have n1 : i ≠ j := fun z => hj (by subst z; exact hi)
    rw [get_set_ne n1] at q
    exact S.fro j e hj q
  · by_cases n1 : i = j
    · subst n1
      obtain ⟨z, _⟩ := get_set q
      cases z
      exact ⟨a, ys, es, rfl, k2, upd_same, r, k5, k6⟩
    · rw [get_set_ne n1] at q
      obtain ⟨b, zs, fs, m1, m2, m3, m4⟩ := S.ow j e hj q
      have : b ≠ a := fun z => by
        subst z
        exact S.sep i j _ _ b hi hj n1 h q k2 m2
      exact ⟨b, zs, fs, m1, m2, by rw [upd_ne this]; exact m3, m4⟩
  · have ex : ∀ {j e}, (ρ.set i (some (.list es)))[j]? = some (some e) → ∃ e', ρ[j]? = some (some e') := fun {j e} q => by
      by_cases n1 : i = j
      · subst n1; exact ⟨_, h⟩
      · rw [get_set_ne n1] at q; exact ⟨_, q⟩
    obtain ⟨e', q1⟩ := ex h1
    obtain ⟨f', q2⟩ := ex h2
    exact S.sep j k e' f' c hj hk hne q1 q2 h3 h4
/-- an owned list stays from here on as it is -/
theorem Sim.freeze (S : Sim K cls B own σ H F ρ) (i : Nat) : ∃ F', Same F F' ∧ Sim K cls B (own.filter fun j => j != i) σ H F' ρ := by
  by_cases hi : i ∈ own
  · cases q : ρ[i]? with
    | none =>
      refine ⟨F, Same.refl _, S.b, S.len, fun j d hj h => ?_, fun j d hj h => S.ow j d (List.mem_filter.mp hj).1 h, fun j k e f a hj hk hne h1 h2 h3 h4 => S.sep j k e f a (List.mem_filter.mp hj).1 (List.mem_filter.mp hk).1 hne h1 h2 h3 h4, S.tb, S.ft⟩
      by_cases e : i = j
      · subst e; rw [q] at h; cases h
      · exact S.fro j d (fun z => hj (List.mem_filter.mpr ⟨z, by simpa using fun z => e z.symm⟩)) h
    | some o =>
      cases o with
      | none =>
        refine ⟨F, Same.refl _, S.b, S.len, fun j d hj h => ?_, fun j d hj h => S.ow j d (List.mem_filter.mp hj).1 h, fun j k e f a hj hk hne h1 h2 h3 h4 => S.sep j k e f a (List.mem_filter.mp hj).1 (List.mem_filter.mp hk).1 hne h1 h2 h3 h4, S.tb, S.ft⟩
        by_cases e : i = j
        · subst e; rw [q] at h; cases h
        · exact S.fro j d (fun z => hj (List.mem_filter.mpr ⟨z, by simpa using fun z => e z.symm⟩)) h
      | some d =>
        obtain ⟨a, xs, ds, e, k2, k3, k4, k5, k6⟩ := S.ow i _ hi q
        cases e
        refine ⟨upd F a (.lst xs), same_upd k5, S.b.keep k6 k3, S.len, fun j d hj h => ?_, fun j d hj h => ?_, fun j k e f c hj hk hne h1 h2 h3 h4 => S.sep j k e f c (List.mem_filter.mp hj).1 (List.mem_filter.mp hk).1 hne h1 h2 h3 h4, S.tb, fun p hp => ?_⟩
        · by_cases e : i = j
          · subst e
            rw [q] at h
            cases h
            exact ⟨_, k2, .ls upd_same (k4.mono (same_upd k5))⟩
          · obtain ⟨v, h1, h2⟩ := S.fro j d (fun z => hj (List.mem_filter.mpr ⟨z, by simpa using fun z => e z.symm⟩)) h
            exact ⟨v, h1, h2.mono (same_upd k5)⟩
        · obtain ⟨m, n⟩ := List.mem_filter.mp hj
          have ne : i ≠ j := fun z => by subst z; simp at n
          obtain ⟨b, zs, fs, m1, m2, m3, m4, m5, m6⟩ := S.ow j d m h
          have ab : b ≠ a := fun z => by
            subst z
            exact S.sep i j _ _ b hi m ne q h k2 m2
          exact ⟨b, zs, fs, m1, m2, m3, m4.mono (same_upd k5), by rw [upd_ne ab]; exact m5, m6⟩
        · obtain ⟨ps, h1, _⟩ := S.tb p hp
          have : p.1 ≠ a := fun z => by rw [z, k3] at h1; cases h1
          rw [upd_ne this]
          exact S.ft p hp
  · refine ⟨F, Same.refl _, ?_⟩
    have e : own.filter (fun j => j != i) = own := List.filter_eq_self.mpr fun j hj => by
      have : j ≠ i := fun z => hi (z ▸ hj)
      simpa using this
    rw [e]
    exact S
/-- fewer owned slots -/
theorem Sim.freezeAll : ∀ (is : List Nat) {own : List Nat} {F : Hp}, Sim K cls B own σ H F ρ → ∃ F', Same F F' ∧ Sim K cls B (own.filter fun j => !is.contains j) σ H F' ρ
  | [], own, F, S => ⟨F, Same.refl _, by
      have e : own.filter (fun j => !([] : List Nat).contains j) = own := List.filter_eq_self.mpr fun j _ => rfl
      rw [e]; exact S⟩
  | i :: is, own, F, S => by
    obtain ⟨F1, s1, S1⟩ := S.freeze i
    obtain ⟨F2, s2, S2⟩ := Sim.freezeAll is S1
    refine ⟨F2, s1.trans s2, ?_⟩
    have e : (own.filter fun j => j != i).filter (fun j => !is.contains j) = own.filter fun j => !(i :: is).contains j := by
      rw [List.filter_filter]
      congr 1
      funext j
      rw [List.contains_cons]
      cases h : j == i <;> cases h2 : is.contains j <;> simp_all [bne]
    rw [← e]
    exact S2
/-- the same owned slots, otherwise written -/
theorem Sim.perm {own' : List Nat} (S : Sim K cls B own σ H F ρ) (h : ∀ i, i ∈ own ↔ i ∈ own') : Sim K cls B own' σ H F ρ :=
  ⟨S.b, S.len, fun i d hi => S.fro i d fun z => hi ((h i).mp z), fun i d hi => S.ow i d ((h i).mpr hi), fun i j d e a hi hj => S.sep i j d e a ((h i).mpr hi) ((h j).mpr hj), S.tb, S.ft⟩
theorem Sim.shrink {own' : List Nat} (S : Sim K cls B own σ H F ρ) (h : ∀ i, i ∈ own' → i ∈ own) : ∃ F', Same F F' ∧ Sim K cls B own' σ H F' ρ := by
  obtain ⟨F', s, S'⟩ := S.freezeAll (own.filter fun i => !own'.contains i)
  refine ⟨F', s, S'.perm fun i => ⟨fun z => ?_, fun z => ?_⟩⟩
  · obtain ⟨a, b⟩ := List.mem_filter.mp z
    by_cases q : i ∈ own'
    · exact q
    · exfalso
      have : i ∈ own.filter fun i => !own'.contains i := List.mem_filter.mpr ⟨a, by simpa using q⟩
      rw [List.contains_iff_mem.mpr this] at b
      cases b
  · refine List.mem_filter.mpr ⟨h i z, ?_⟩
    cases q : (own.filter fun i => !own'.contains i).contains i with
    | false => rfl
    | true =>
      have := (List.mem_filter.mp (List.contains_iff_mem.mp q)).2
      rw [List.contains_iff_mem.mpr z] at this
      cases this
/-- forget what stands in slot i -/
theorem Sim.forget (S : Sim K cls B own σ H F ρ) (i : Nat) (u : Option V) : Sim K cls B own (σ.set i u) H F (ρ.set i none) := by
  have ne : ∀ {j e}, (ρ.set i none)[j]? = some (some e) → i ≠ j := fun {j e} q z => by
    subst z
    obtain ⟨z, _⟩ := get_set q
    cases z
  refine ⟨S.b, by rw [List.length_set, List.length_set]; exact S.len, fun j e hj q => ?_, fun j e hj q => ?_, fun j k e f c hj hk hne h1 h2 h3 h4 => ?_, S.tb, S.ft⟩
  · have n := ne q
    rw [get_set_ne n] at q ⊢
    exact S.fro j e hj q
  · have n := ne q
    rw [get_set_ne n] at q
    obtain ⟨a, xs, ds, m1, m2, m3⟩ := S.ow j e hj q
    exact ⟨a, xs, ds, m1, by rw [get_set_ne n]; exact m2, m3⟩
  · have n1 := ne h1
    have n2 := ne h2
    rw [get_set_ne n1] at h1 h3
    rw [get_set_ne n2] at h2 h4
    exact S.sep j k e f c hj hk hne h1 h2 h3 h4
end
end Fn

set_option Elab.async false
set_option linter.all false
set_option maxRecDepth 100000
/-! Expressions by the data that they give. -/
namespace Fn
open PySem PySem.Spec L2

/-- what comes of it: a value, an error of the n-th class, or nothing is said -/
inductive O (α : Type) where
  | ok (a : α) | ex (n : Nat) | bad
def O.bind {α β : Type} : O α → (α → O β) → O β
  | .ok a, f => f a
  | .ex n, _ => .ex n
  | .bad, _ => .bad
theorem O.bind_ok {α β : Type} (a : α) (f : α → O β) : O.bind (.ok a) f = f a := rfl
theorem O.bind_ex {α β : Type} (n : Nat) (f : α → O β) : O.bind (.ex n) f = .ex n := rfl
theorem O.bind_bad {α β : Type} (f : α → O β) : O.bind .bad f = .bad := rfl
def OPost {α : Type} (P : α → Prop) (E : Nat → Prop) : O α → Prop
  | .ok a => P a
  | .ex n => E n
  | .bad => False
theorem OPost.imp {α : Type} {P P' : α → Prop} {E E' : Nat → Prop} (h1 : ∀ a, P a → P' a) (h2 : ∀ n, E n → E' n) : ∀ {o : O α}, OPost P E o → OPost P' E' o
  | .ok a, h => h1 a h
  | .ex n, h => h2 n h
  | .bad, h => h
theorem OPost.bind {α β : Type} {P : β → Prop} {E : Nat → Prop} {f : α → O β} : ∀ {o : O α}, OPost P E (o.bind f) → OPost (fun a => OPost P E (f a)) E o
  | .ok _, h => h
  | .ex _, h => h
  | .bad, h => h

structure Ct where
  cls : Nat → Addr
  xc : Nat → Addr
  W : WX
  B : Hp × Hp × List (Addr × Str)
  fr : Bool

section
variable (K : PySem.W.Frag) (c : Ct)
/-- as Rep, or a list that stands in H alone, its items in F -/
def Rep1 (F H : Hp) (v : V) (d : D) : Prop := Rep K c.cls F v d ∨ ∃ a xs ds, v = .ref a ∧ d = .list ds ∧ H a = some (.lst xs) ∧ RepL K c.cls F xs ds
def RepB : Bool → Hp → Hp → V → D → Prop
  | true => fun F _ => Rep K c.cls F
  | false => Rep1 K c
def RepBL : Bool → Hp → Hp → List V → List D → Prop
  | true => fun F _ => RepL K c.cls F
  | false => fun F H => Paired (Rep1 K c F H)
def EP1 (b : Bool) (σ : St) (F H : Hp) (Q : VK) : O D → Prop := OPost (fun d => ∀ v H' F', Ext F H F' H' → RepB K c b F' H' v d → Q v H') fun n => ∀ H', Same H H' → c.W (.ref (c.xc n)) none σ H'
def TP1 (σ : St) (F H : Hp) (Q : Bool → Hp → Prop) : O Bool → Prop := OPost (fun k => ∀ H' F', Ext F H F' H' → Q k H') fun n => ∀ H', Same H H' → c.W (.ref (c.xc n)) none σ H'
def AP1 (b : Bool) (σ : St) (F H : Hp) (Q : List V → Hp → Prop) : O (List D) → Prop := OPost (fun ds => ∀ vs H' F', Ext F H F' H' → RepBL K c b F' H' vs ds → Q vs H') fun n => ∀ H', Same H H' → c.W (.ref (c.xc n)) none σ H'
def FE (own : List Nat) (b : Bool) (t : TE) (g : Rho → O D) : Prop := ∀ σ H F ρ Q, Sim K c.cls c.B own σ H F ρ → EP1 K c b σ F H Q (g ρ) → t σ H Q
def FT (own : List Nat) (t : TT) (g : Rho → O Bool) : Prop := ∀ σ H F ρ Q, Sim K c.cls c.B own σ H F ρ → TP1 c σ F H Q (g ρ) → t σ H Q
def FA (own : List Nat) (b : Bool) (t : TA) (g : Rho → O (List D)) : Prop := ∀ σ H F ρ Q, Sim K c.cls c.B own σ H F ρ → AP1 K c b σ F H Q (g ρ) → t σ H Q
/-- a new list that stands in H alone -/
def FO (own : List Nat) (t : TE) (g : Rho → O D) : Prop := ∀ σ H F ρ Q, Sim K c.cls c.B own σ H F ρ →
  OPost (fun d => ∃ ds, d = .list ds ∧ ∀ a xs H' F', Ext F H F' H' → H' a = some (.lst xs) → F' a = none → H a = none → RepL K c.cls F' xs ds → Q (.ref a) H') (fun n => ∀ H', Same H H' → c.W (.ref (c.xc n)) none σ H') (g ρ) → t σ H Q
end

section
variable {K : PySem.W.Frag} {c : Ct} {own : List Nat} {b : Bool} {F H F' H' : Hp} {σ : St} {ρ : Rho}
theorem Rep.one {v : V} {d : D} (r : Rep K c.cls F v d) : Rep1 K c F H v d := .inl r
theorem RepB.one {v : V} {d : D} (r : RepB K c b F H v d) : Rep1 K c F H v d := by
  cases b with
  | true => exact .inl r
  | false => exact r
theorem Rep1.ext {v : V} {d : D} (r : Rep1 K c F H v d) (e : Ext F H F' H') : Rep1 K c F' H' v d := by
  rcases r with r | ⟨a, xs, ds, h1, h2, h3, h4⟩
  · exact .inl (r.mono e.f)
  · exact .inr ⟨a, xs, ds, h1, h2, e.h _ _ h3, h4.mono e.f⟩
theorem RepB.ext {v : V} {d : D} (r : RepB K c b F H v d) (e : Ext F H F' H') : RepB K c b F' H' v d := by
  cases b with
  | true => exact Rep.mono e.f r
  | false => exact Rep1.ext r e
theorem Rep1.full {v : V} {d : D} (r : Rep1 K c F H v d) (s : Same F H) : Rep K c.cls H v d := by
  rcases r with r | ⟨a, xs, ds, rfl, rfl, h3, h4⟩
  · exact r.mono s
  · exact .ls h3 (h4.mono s)
theorem Rep1.lst {v : V} {ds : List D} (r : Rep1 K c F H v (.list ds)) (s : Same F H) : ∃ a xs, v = .ref a ∧ H a = some (.lst xs) ∧ RepL K c.cls F xs ds := by
  rcases r with r | ⟨a, xs, ds', rfl, e, h3, h4⟩
  · cases r with
    | ls h r => exact ⟨_, _, rfl, s _ _ h, r⟩
  · cases e
    exact ⟨a, xs, rfl, h3, h4⟩
theorem Rep1.tup {v : V} {ds : List D} (r : Rep1 K c F H v (.tuple ds)) (s : Same F H) : ∃ a xs, v = .ref a ∧ SqT K H a xs ∧ RepL K c.cls F xs ds ∧ Rep K c.cls F v (.tuple ds) := by
  rcases r with r | ⟨a, xs, ds', rfl, e, h3, h4⟩
  · cases r with
    | tp h r => exact ⟨_, _, rfl, Same.tup s h, r, .tp h r⟩
  · cases e
theorem Rep1.roL {v : V} {ds : List D} (r : Rep1 K c F H v (D.ro ds)) (s : Same F H) : ∃ a xs, v = .ref a ∧ SqL K H a xs ∧ RepL K c.cls F xs ds := by
  rcases r with r | ⟨a, xs, ds', rfl, e, h3, h4⟩
  · cases r with
    | ro h r => exact ⟨_, _, rfl, s.seq h, r⟩
  · cases e
theorem Rep1.obj {v : V} {k : Nat} {gs : List (D × D)} (r : Rep1 K c F H v (D.ob k gs)) (s : Same F H) : ∃ a dx fs, v = .ref a ∧ H a = some (.ins (c.cls k) dx fs) ∧ RepF K c.cls F fs gs := by
  rcases r with r | ⟨a, xs, ds', rfl, e, h3, h4⟩
  · cases r with
    | ob h r => exact ⟨_, _, _, rfl, s _ _ h, r⟩
  · cases e
theorem Rep1.int {v : V} {i : Int} (r : Rep1 K c F H v (.int i)) : v = .int i := by
  rcases r with r | ⟨a, xs, ds', rfl, e, h3, h4⟩
  · cases r; rfl
  · cases e
theorem Rep1.bl {v : V} {i : Bool} (r : Rep1 K c F H v (.bool i)) : v = .bl i := by
  rcases r with r | ⟨a, xs, ds', rfl, e, h3, h4⟩
  · cases r; rfl
  · cases e
theorem Rep1.str {v : V} {i : Str} (r : Rep1 K c F H v (.str i)) : v = .str i := by
  rcases r with r | ⟨a, xs, ds', rfl, e, h3, h4⟩
  · cases r; rfl
  · cases e
theorem Rep1.non {v : V} (r : Rep1 K c F H v .none) : v = .non := by
  rcases r with r | ⟨a, xs, ds', rfl, e, h3, h4⟩
  · cases r; rfl
  · cases e
theorem Rep1.len {v : V} {d : D} (r : Rep1 K c F H v d) : True := trivial

/-- behind a step that has grown the heaps the wish is the rest of the wish -/
theorem EP1.ext {Q : VK} {o : O D} (h : EP1 K c b σ F H Q o) (e : Ext F H F' H') : EP1 K c b σ F' H' Q o :=
  OPost.imp (fun _ q v H2 F2 e2 r => q v H2 F2 (e.trans e2) r) (fun _ q H2 s => q H2 (e.h.trans s)) h
theorem TP1.ext {Q : Bool → Hp → Prop} {o : O Bool} (h : TP1 c σ F H Q o) (e : Ext F H F' H') : TP1 c σ F' H' Q o :=
  OPost.imp (fun _ q H2 F2 e2 => q H2 F2 (e.trans e2)) (fun _ q H2 s => q H2 (e.h.trans s)) h
theorem AP1.ext {Q : List V → Hp → Prop} {o : O (List D)} (h : AP1 K c b σ F H Q o) (e : Ext F H F' H') : AP1 K c b σ F' H' Q o :=
  OPost.imp (fun _ q v H2 F2 e2 r => q v H2 F2 (e.trans e2) r) (fun _ q H2 s => q H2 (e.h.trans s)) h

theorem FE.weak {t : TE} {g : Rho → O D} (h : FE K c own true t g) : FE K c own false t g := fun σ H F ρ Q S q =>
  h σ H F ρ Q S (OPost.imp (fun _ q v H2 F2 e2 r => q v H2 F2 e2 (.inl r)) (fun _ q => q) q)
theorem FE.any {t : TE} {g : Rho → O D} (h : FE K c own true t g) : FE K c own b t g := by
  cases b with
  | true => exact h
  | false => exact h.weak
/-! ### names, constants -/
def gVar (i : Nat) : Rho → O D := fun ρ => match ρ[i]? with
  | some (some d) => .ok d
  | _ => .bad
theorem fe_var {i : Nat} (hi : own.contains i = false) : FE K c own b (tVar i) (gVar i) := FE.any fun σ H F ρ Q S q => by
  unfold gVar at q
  split at q
  · rename_i d e
    obtain ⟨v, h1, h2⟩ := S.fro i d (fun z => by rw [List.contains_iff_mem.mpr z] at hi; cases hi) e
    exact ⟨v, h1, q v H F (Ext.refl S.s) h2⟩
  · exact q.elim
theorem fe_varO {i : Nat} : FE K c own false (tVar i) (gVar i) := fun σ H F ρ Q S q => by
  unfold gVar at q
  split at q
  · rename_i d e
    by_cases hi : i ∈ own
    · obtain ⟨a, xs, ds, h0, h1, h2, h3, _, _⟩ := S.ow i d hi e
      exact ⟨_, h1, q _ H F (Ext.refl S.s) (.inr ⟨a, xs, ds, rfl, h0, h2, h3⟩)⟩
    · obtain ⟨v, h1, h2⟩ := S.fro i d hi e
      exact ⟨v, h1, q v H F (Ext.refl S.s) (.inl h2)⟩
  · exact q.elim
def gC (d : D) : Rho → O D := fun _ => .ok d
theorem fe_c {v : V} {d : D} (r : ∀ F, Rep K c.cls F v d) : FE K c own b (tC v) (gC d) := FE.any fun σ H F ρ Q S q => q v H F (Ext.refl S.s) (r F)
/-! ### two in a row, operators -/
def g2 (op : D → D → O D) (ga gb : Rho → O D) : Rho → O D := fun ρ => (ga ρ).bind fun d => (gb ρ).bind fun e => op d e
def g1 (op : D → O D) (ga : Rho → O D) : Rho → O D := fun ρ => (ga ρ).bind op
def OpF (K : PySem.W.Frag) (c : Ct) (b : Bool) (r : R2) (op : D → D → O D) : Prop := ∀ F H x y d e Q, Same F H → Rep1 K c F H x d → Rep1 K c F H y e →
  OPost (fun z => ∀ v H' F', Ext F H F' H' → RepB K c b F' H' v z → Q v H') (fun _ => False) (op d e) → r x y H Q
def UnF (K : PySem.W.Frag) (c : Ct) (b : Bool) (r : V → Hp → VK → Prop) (op : D → O D) : Prop := ∀ F H x d Q, Same F H → Rep1 K c F H x d →
  OPost (fun z => ∀ v H' F', Ext F H F' H' → RepB K c b F' H' v z → Q v H') (fun _ => False) (op d) → r x H Q
def noEx {α : Type} : O α → O α
  | .ex _ => .bad
  | o => o
theorem noEx_post {α : Type} {P : α → Prop} {E : Nat → Prop} {o : O α} (h : OPost P E (noEx o)) : OPost P (fun _ => False) o := by
  cases o with
  | ok a => exact h
  | ex n => exact h.elim
  | bad => exact h.elim
theorem fe_op {r : R2} {op : D → D → O D} {ta tb : TE} {ga gb : Rho → O D} (ho : OpF K c b r op) (ha : FE K c own false ta ga) (hb : FE K c own false tb gb) : FE K c own b (tOp r ta tb) (g2 (fun d e => noEx (op d e)) ga gb) := fun σ H F ρ Q S q => by
  refine ha σ H F ρ _ S (OPost.imp (fun d q v H1 F1 e1 r1 => ?_) (fun _ q => q) (OPost.bind q))
  refine hb σ H1 F1 ρ _ (S.ext e1) (OPost.imp (fun e q w H2 F2 e2 r2 => ?_) (fun _ q H2 s => q H2 (e1.h.trans s)) (OPost.bind q))
  refine ho F2 H2 v w d e Q e2.s (r1.ext e2) r2 (OPost.imp (fun z q u H3 F3 e3 r3 => q u H3 F3 ((e1.trans e2).trans e3) r3) (fun _ q => q) (noEx_post q))
theorem fe_un {r : V → Hp → VK → Prop} {op : D → O D} {ta : TE} {ga : Rho → O D} (ho : UnF K c b r op) (ha : FE K c own false ta ga) : FE K c own b (tUn r ta) (g1 (fun d => noEx (op d)) ga) := fun σ H F ρ Q S q => by
  refine ha σ H F ρ _ S (OPost.imp (fun d q v H1 F1 e1 r1 => ?_) (fun _ q => q) (OPost.bind q))
  exact ho F1 H1 v d Q e1.s r1 (OPost.imp (fun z q u H3 F3 e3 r3 => q u H3 F3 (e1.trans e3) r3) (fun _ q => q) (noEx_post q))
/-! ### arguments -/
def gNilA : Rho → O (List D) := fun _ => .ok []
def gConsA (g : Rho → O D) (gs : Rho → O (List D)) : Rho → O (List D) := fun ρ => (g ρ).bind fun d => (gs ρ).bind fun ds => .ok (d :: ds)
theorem RepBL.nil : RepBL K c b F H [] [] := by
  cases b with
  | true => exact .nil
  | false => exact .nil
theorem RepBL.cons {v : V} {vs : List V} {d : D} {ds : List D} (h : RepB K c b F H v d) (t : RepBL K c b F H vs ds) : RepBL K c b F H (v :: vs) (d :: ds) := by
  cases b with
  | true => exact RepL.cons h t
  | false => exact Paired.cons h t
theorem fa_nil : FA K c own b tNil gNilA := fun σ H F ρ Q S q => q [] H F (Ext.refl S.s) RepBL.nil
theorem fa_cons {t : TE} {ts : TA} {g : Rho → O D} {gs : Rho → O (List D)} (h : FE K c own b t g) (hs : FA K c own b ts gs) : FA K c own b (tCons t ts) (gConsA g gs) := fun σ H F ρ Q S q => by
  refine h σ H F ρ _ S (OPost.imp (fun d q v H1 F1 e1 r1 => ?_) (fun _ q => q) (OPost.bind q))
  refine hs σ H1 F1 ρ _ (S.ext e1) (OPost.imp (fun ds q vs H2 F2 e2 r2 => ?_) (fun _ q H2 s => q H2 (e1.h.trans s)) (OPost.bind q))
  exact q (v :: vs) H2 F2 (e1.trans e2) (RepBL.cons (r1.ext e2) r2)
theorem Paired.repL {vs : List V} {ds : List D} (h : RepL K c.cls F vs ds) : Paired (Rep1 K c F H) vs ds := by
  induction vs generalizing ds with
  | nil => cases h; exact .nil
  | cons v vs ih => cases h with
    | cons r t => exact .cons (.inl r) (ih t)
/-! ### built-in calls -/
def CallF (K : PySem.W.Frag) (c : Ct) (b : Bool) (r : List V → Hp → VK → Prop) (f : List D → O D) : Prop := ∀ F H xs ds Q, Same F H → Paired (Rep1 K c F H) xs ds →
  OPost (fun z => ∀ v H' F', Ext F H F' H' → RepB K c b F' H' v z → Q v H') (fun _ => False) (f ds) → r xs H Q
def gCall (f : List D → O D) (g : Rho → O (List D)) : Rho → O D := fun ρ => (g ρ).bind f
theorem fe_callB {r : List V → Hp → VK → Prop} {f : List D → O D} {t : TA} {g : Rho → O (List D)} (hf : CallF K c b r f) (h : FA K c own false t g) : FE K c own b (tCB r t) (gCall (fun ds => noEx (f ds)) g) := fun σ H F ρ Q S q => by
  refine h σ H F ρ _ S (OPost.imp (fun ds q vs H1 F1 e1 r1 => ?_) (fun _ q => q) (OPost.bind q))
  exact hf F1 H1 vs ds Q e1.s r1 (OPost.imp (fun z q u H3 F3 e3 r3 => q u H3 F3 (e1.trans e3) r3) (fun _ q => q) (noEx_post q))
/-! ### lists and tuples, written -/
def lim : Nat := 1000000
theorem lim_le : lim ≤ sizeLine := by rw [sizeLine_eq]; decide
theorem le_lim {n : Nat} (h : n ≤ lim) : n ≤ sizeLine := Nat.le_trans h lim_le
theorem lt_lim {n : Nat} (h : n < lim) : n < sizeLine := Nat.lt_of_lt_of_le h lim_le
def gTup (g : Rho → O (List D)) : Rho → O D := fun ρ => (g ρ).bind fun ds => if ds.length ≤ lim then .ok (.tuple ds) else .bad
def gLst (g : Rho → O (List D)) : Rho → O D := fun ρ => (g ρ).bind fun ds => if ds.length ≤ lim then .ok (.list ds) else .bad
theorem fe_tup {t : TA} {g : Rho → O (List D)} (h : FA K c own true t g) : FE K c own b (tTup t) (gTup g) := FE.any fun σ H F ρ Q S q => by
  refine h σ H F ρ _ S (OPost.imp (fun ds q vs H1 F1 e1 r1 => ?_) (fun _ q => q) (OPost.bind q))
  have rl : RepL K c.cls F1 vs ds := r1
  split at q
  · rename_i hl
    refine ⟨by rw [rl.length]; exact le_lim hl, fun p hp => ?_⟩
    exact q _ _ _ (e1.trans (Ext.new e1.s hp)) (.tp (SqT.of upd_same) (rl.mono (same_upd (e1.s.free hp))))
  · exact q.elim
theorem fo_lst {t : TA} {g : Rho → O (List D)} (h : FA K c own true t g) : FO K c own (tLst t) (gLst g) := fun σ H F ρ Q S q => by
  refine h σ H F ρ _ S (OPost.imp (fun ds q vs H1 F1 e1 r1 => ?_) (fun _ q => q) (OPost.bind q))
  have rl : RepL K c.cls F1 vs ds := r1
  split at q
  · rename_i hl
    obtain ⟨es, e, q⟩ := q
    cases e
    refine ⟨by rw [rl.length]; exact le_lim hl, fun p hp => ?_⟩
    exact q p vs _ F1 (e1.trans (Ext.newO e1.s hp)) upd_same (e1.s.free hp) (e1.h.free hp) rl
  · exact q.elim
/-- a new list is as good as one that stays -/
theorem FO.fe {t : TE} {g : Rho → O D} (h : FO K c own t g) (hl : ∀ ρ d, g ρ = .ok d → ∃ ds, d = .list ds) : FE K c own b t g := FE.any fun σ H F ρ Q S q => by
  refine h σ H F ρ Q S ?_
  cases hg : g ρ with
  | ok d =>
    rw [hg] at q
    obtain ⟨ds, rfl⟩ := hl ρ d hg
    refine ⟨ds, rfl, fun a xs H' F' e h1 h2 h3 r => ?_⟩
    exact q _ _ _ (e.keep h3 h1) (.ls upd_same (r.mono (same_upd h2)))
  | ex n => rw [hg] at q; exact q
  | bad => rw [hg] at q; exact q
theorem gLst_list {g : Rho → O (List D)} : ∀ ρ d, gLst g ρ = .ok d → ∃ ds, d = .list ds := fun ρ d h => by
  unfold gLst at h
  cases e : g ρ with
  | ok ds =>
    rw [e, O.bind_ok] at h
    split at h
    · cases h; exact ⟨ds, rfl⟩
    · cases h
  | ex n => rw [e] at h; cases h
  | bad => rw [e] at h; cases h
theorem fe_lst {t : TA} {g : Rho → O (List D)} (h : FA K c own true t g) : FE K c own b (tLst t) (gLst g) := (fo_lst h).fe gLst_list

/-! ### tests -/
def gBl (g : Rho → O D) : Rho → O Bool := fun ρ => (g ρ).bind fun d => match d with
  | .bool k => .ok k
  | _ => .bad
theorem ft_bl {t : TE} {g : Rho → O D} (h : FE K c own false t g) : FT K c own (tB t) (gBl g) := fun σ H F ρ Q S q => by
  refine h σ H F ρ _ S (OPost.imp (fun d q v H1 F1 e1 r1 => ?_) (fun _ q => q) (OPost.bind q))
  split at q
  · rename_i k
    have r1 : Rep1 K c F1 H1 v (.bool k) := r1
    exact ⟨k, r1.bl, q H1 F1 e1⟩
  · exact q.elim
theorem ft_test {t : TE} {g : Rho → O D} (h : FE K c own false t g) : FT K c own (tTest t) (gBl g) := ft_bl h
def truD : D → O Bool
  | .none => .ok false
  | .bool k => .ok k
  | .int i => .ok (i != 0)
  | .str x => if x.length ≤ lim then .ok ((x.length : Int) != 0) else .bad
  | .list ds => .ok (!ds.isEmpty)
  | .tuple ds => .ok (!ds.isEmpty)
  | .dict [(.none, .list ds)] => .ok (!ds.isEmpty)
  | .dict _ => .bad
def gTru (g : Rho → O D) : Rho → O Bool := fun ρ => (g ρ).bind truD
theorem isEmpty_repL {vs : List V} {ds : List D} (h : RepL K c.cls F vs ds) : vs.isEmpty = ds.isEmpty := by
  cases h <;> rfl
theorem ft_truth {t : TE} {g : Rho → O D} (h : FE K c own false t g) : FT K c own (fun σ H Q => t σ H fun x H' => ∃ k, TruV K x H' k ∧ Q k H') (gTru g) := fun σ H F ρ Q S q => by
  refine h σ H F ρ _ S (OPost.imp (fun d q v H1 F1 e1 r1 => ?_) (fun _ q => q) (OPost.bind q))
  have r1 : Rep1 K c F1 H1 v d := r1
  unfold truD at q
  split at q
  · rw [r1.non]; exact ⟨_, rfl, q H1 F1 e1⟩
  · rw [r1.bl]; exact ⟨_, rfl, q H1 F1 e1⟩
  · rw [r1.int]; exact ⟨_, rfl, q H1 F1 e1⟩
  · split at q
    · rename_i hl
      rw [r1.str]; exact ⟨_, ⟨le_lim hl, rfl⟩, q H1 F1 e1⟩
    · exact q.elim
  · obtain ⟨a, xs, rfl, h1, h2⟩ := r1.lst e1.s
    exact ⟨_, .inl ⟨xs, SqL.of h1, by rw [isEmpty_repL h2]⟩, q H1 F1 e1⟩
  · obtain ⟨a, xs, rfl, h1, h2, _⟩ := r1.tup e1.s
    exact ⟨_, .inr (.inl ⟨xs, h1, by rw [isEmpty_repL h2]⟩), q H1 F1 e1⟩
  · obtain ⟨a, xs, rfl, h1, h2⟩ := r1.roL e1.s
    exact ⟨_, .inl ⟨xs, h1, by rw [isEmpty_repL h2]⟩, q H1 F1 e1⟩
  · exact q.elim
def gNotT (g : Rho → O Bool) : Rho → O Bool := fun ρ => (g ρ).bind fun k => .ok (!k)
theorem ft_not {t : TT} {g : Rho → O Bool} (h : FT K c own t g) : FT K c own (tNot t) (gNotT g) := fun σ H F ρ Q S q =>
  h σ H F ρ _ S (OPost.imp (fun k q H1 F1 e1 => q H1 F1 e1) (fun _ q => q) (OPost.bind q))
def gAndT (g u : Rho → O Bool) : Rho → O Bool := fun ρ => (g ρ).bind fun k => if k = true then u ρ else .ok false
def gOrT (g u : Rho → O Bool) : Rho → O Bool := fun ρ => (g ρ).bind fun k => if k = true then .ok true else u ρ
theorem ft_and {t u : TT} {g g' : Rho → O Bool} (h : FT K c own t g) (h' : FT K c own u g') : FT K c own (tAnd t u) (gAndT g g') := fun σ H F ρ Q S q => by
  refine h σ H F ρ _ S (OPost.imp (fun k q H1 F1 e1 => ?_) (fun _ q => q) (OPost.bind q))
  cases k with
  | true =>
    rw [if_pos rfl] at q ⊢
    exact h' σ H1 F1 ρ Q (S.ext e1) (TP1.ext q e1)
  | false =>
    rw [if_neg Bool.false_ne_true] at q ⊢
    exact q H1 F1 e1
theorem ft_or {t u : TT} {g g' : Rho → O Bool} (h : FT K c own t g) (h' : FT K c own u g') : FT K c own (tOr t u) (gOrT g g') := fun σ H F ρ Q S q => by
  refine h σ H F ρ _ S (OPost.imp (fun k q H1 F1 e1 => ?_) (fun _ q => q) (OPost.bind q))
  cases k with
  | true =>
    rw [if_pos rfl] at q ⊢
    exact q H1 F1 e1
  | false =>
    rw [if_neg Bool.false_ne_true] at q ⊢
    exact h' σ H1 F1 ρ Q (S.ext e1) (TP1.ext q e1)
/-! ### and, or, not, if as values -/
def gAndV (g u : Rho → O D) : Rho → O D := fun ρ => (gBl g ρ).bind fun k => if k = true then u ρ else .ok (.bool false)
def gOrV (g u : Rho → O D) : Rho → O D := fun ρ => (gBl g ρ).bind fun k => if k = true then .ok (.bool true) else u ρ
def gNotV (g : Rho → O D) : Rho → O D := fun ρ => (gBl g ρ).bind fun k => .ok (.bool (!k))
theorem fe_and {t u : TE} {g g' : Rho → O D} (h : FE K c own false t g) (h' : FE K c own b u g') : FE K c own b (tAndV t u) (gAndV g g') := fun σ H F ρ Q S q => by
  refine h σ H F ρ _ S (OPost.imp (fun d q v H1 F1 e1 r1 => ?_) (fun _ q => q) (OPost.bind (OPost.bind q)))
  split at q
  · rename_i k
    have r1 : Rep1 K c F1 H1 v (.bool k) := r1
    refine ⟨k, r1.bl, ?_⟩
    cases k with
    | true => exact h' σ H1 F1 ρ Q (S.ext e1) (EP1.ext q e1)
    | false => exact q _ H1 F1 e1 (by cases b with | true => exact .bl _ | false => exact .inl (.bl _))
  · exact q.elim
theorem fe_or {t u : TE} {g g' : Rho → O D} (h : FE K c own false t g) (h' : FE K c own b u g') : FE K c own b (tOrV t u) (gOrV g g') := fun σ H F ρ Q S q => by
  refine h σ H F ρ _ S (OPost.imp (fun d q v H1 F1 e1 r1 => ?_) (fun _ q => q) (OPost.bind (OPost.bind q)))
  split at q
  · rename_i k
    have r1 : Rep1 K c F1 H1 v (.bool k) := r1
    refine ⟨k, r1.bl, ?_⟩
    cases k with
    | true => exact q _ H1 F1 e1 (by cases b with | true => exact .bl _ | false => exact .inl (.bl _))
    | false => exact h' σ H1 F1 ρ Q (S.ext e1) (EP1.ext q e1)
  · exact q.elim
theorem fe_not {t : TE} {g : Rho → O D} (h : FE K c own false t g) : FE K c own b (tNotV t) (gNotV g) := FE.any fun σ H F ρ Q S q => by
  refine h σ H F ρ _ S (OPost.imp (fun d q v H1 F1 e1 r1 => ?_) (fun _ q => q) (OPost.bind (OPost.bind q)))
  split at q
  · rename_i k
    have r1 : Rep1 K c F1 H1 v (.bool k) := r1
    exact ⟨k, r1.bl, q _ H1 F1 e1 (.bl _)⟩
  · exact q.elim
def gIf (g : Rho → O Bool) (u w : Rho → O D) : Rho → O D := fun ρ => (g ρ).bind fun k => if k = true then u ρ else w ρ
theorem fe_if {t : TT} {u w : TE} {g : Rho → O Bool} {g' g'' : Rho → O D} (h : FT K c own t g) (h' : FE K c own b u g') (h'' : FE K c own b w g'') : FE K c own b (tIf t u w) (gIf g g' g'') := fun σ H F ρ Q S q => by
  refine h σ H F ρ _ S (OPost.imp (fun k q H1 F1 e1 => ?_) (fun _ q => q) (OPost.bind q))
  cases k with
  | true =>
    rw [if_pos rfl] at q ⊢
    exact h' σ H1 F1 ρ Q (S.ext e1) (EP1.ext q e1)
  | false =>
    rw [if_neg Bool.false_ne_true] at q ⊢
    exact h'' σ H1 F1 ρ Q (S.ext e1) (EP1.ext q e1)
end
end Fn

set_option Elab.async false
set_option linter.all false
set_option maxRecDepth 100000
/-! A tuple times one is the tuple itself. -/
namespace Fn
open PySem PySem.Spec PyProof.Rows L2
theorem tuple_mul_one (l : Addr) (items : Array Value) (n : Nat) (dd : Option Addr) (sl : Array (Option Value)) (u : Tok) :
    Meets (Builtin.«tuple.__mul__» ⟨[.ref l, .int 1 u], []⟩) (fun _ R s => s.heap.get? l = some { cls := .type "tuple", dict := dd, data := .seq items n, slots := sl } ∧ R (.ok (.ret (Value.ref l))) s) :=
  .of_wp fun prog w A R s h => by
    obtain ⟨hp, g, d, t, os⟩ := s
    obtain ⟨hl, q⟩ := h
    have f1 := AutoSeq1.idx_int
    wp_walk using wpAny_loadPart' hl
    exact ⟨_, rfl, q⟩
def rRepT1 (K : PySem.W.Frag) : R2 := fun x y H Q => ∃ l xs, x = .ref l ∧ y = .int 1 ∧ SqT K H l xs ∧ Q (.ref l) H
theorem op_repT1 {X : Cx} : OpR X (binaryOp .Mult) (rRepT1 X.K) := by
  intro pins s σ H x y v u Q I rx ry h
  obtain ⟨l, xs, rfl, rfl, hT, q⟩ := h
  cases rx
  obtain ⟨t, rfl⟩ := ry
  obtain ⟨its, r, ⟨⟨kl, dd, data, sl⟩, ho, hc, n, hd⟩, hs⟩ := I.tuple hT
  simp only at hc hd
  subst hc
  subst hd
  have m2 := int_rmul_tuple 1 t l its.toArray n dd sl
  refine wpAny_binaryOp_repeat_ref (T := "tuple") (U := "int") (by decide) ⟨_, ho, rfl⟩ (fun s' => typeIs_int s' 1 t) noFill_tuple_mul F.fills_int_mul F.slot_int_rmul repeat_tuple F.slot_int_index.lookup ?_
  refine call_meets F.slot_int_rmul (typeIs_int s 1 t) F.entry_int_rmul (F.args_int_rmul_2 _ _) m2 ⟨ho, rfl, ⟨_, ho, rfl⟩, ?_⟩
  exact call_meets F.slot_tuple_mul ⟨_, ho, rfl⟩ F.entry_tuple_mul (F.args_tuple_mul_2 _ _) (tuple_mul_one l its.toArray n dd sl t) ⟨ho, .ref l, H, I, rfl, q⟩
end Fn

set_option Elab.async false
set_option linter.all false
set_option maxRecDepth 100000
/-! Operators, subscripts, built-in calls by data. -/
namespace Fn
open PySem PySem.Spec L2

section
variable {K : PySem.W.Frag} {c : Ct} {own : List Nat} {b : Bool} {F H F' H' : Hp} {σ : St} {ρ : Rho}
/-- an operator whose answer is a new list -/
def OpO (K : PySem.W.Frag) (c : Ct) (r : R2) (op : D → D → O (List D)) : Prop := ∀ F H x y d e Q, Same F H → Rep1 K c F H x d → Rep1 K c F H y e →
  OPost (fun ds => ∀ a xs H' F', Ext F H F' H' → H' a = some (.lst xs) → F' a = none → H a = none → RepL K c.cls F' xs ds → Q (.ref a) H') (fun _ => False) (op d e) → r x y H Q
def g2L (op : D → D → O (List D)) (ga gb : Rho → O D) : Rho → O D := fun ρ => (ga ρ).bind fun d => (gb ρ).bind fun e => (op d e).bind fun ds => .ok (.list ds)
theorem OPost.noex {α : Type} {P : α → Prop} {E : Nat → Prop} {o : O α} (h : OPost P E o) (hn : ∀ n, o ≠ .ex n) : OPost P (fun _ => False) o := by
  cases o with
  | ok a => exact h
  | ex n => exact absurd rfl (hn n)
  | bad => exact h.elim
theorem fo_op {r : R2} {op : D → D → O (List D)} {ta tb : TE} {ga gb : Rho → O D} (ho : OpO K c r op) (hn : ∀ d e n, op d e ≠ .ex n) (ha : FE K c own false ta ga) (hb : FE K c own false tb gb) : FO K c own (tOp r ta tb) (g2L op ga gb) := fun σ H F ρ Q S q => by
  refine ha σ H F ρ _ S (OPost.imp (fun d q v H1 F1 e1 r1 => ?_) (fun _ q => q) (OPost.bind q))
  refine hb σ H1 F1 ρ _ (S.ext e1) (OPost.imp (fun e q w H2 F2 e2 r2 => ?_) (fun _ q H2 s => q H2 (e1.h.trans s)) (OPost.bind q))
  refine ho F2 H2 v w d e Q e2.s (r1.ext e2) r2 (OPost.imp (fun ds q a xs H3 F3 e3 h1 h2 h3 r3 => ?_) (fun _ q => q) (OPost.noex (OPost.bind q) (hn d e)))
  obtain ⟨es, ee, q⟩ := q
  cases ee
  exact q a xs H3 F3 ((e1.trans e2).trans e3) h1 h2 ((e1.trans e2).h.free h3) r3

/-! ### whole numbers -/
def mulOk (i j : Int) : Bool := decide (i.natAbs.log2 + j.natAbs.log2 < 1000000) || (decide (-(2 ^ 64) < i ∧ i < 2 ^ 64) || decide (-(2 ^ 64) < j ∧ j < 2 ^ 64))
def repL (ds : List D) (k : Int) : O (List D) := if -(lim : Int) ≤ k ∧ k ≤ lim ∧ ds.length * k.toNat ≤ lim then .ok (List.replicate k.toNat ds).flatten else .bad
def dSub : D → D → O D
  | .int i, .int j => .ok (.int (i - j))
  | _, _ => .bad
def dFdiv : D → D → O D
  | .int i, .int j => if 0 < j ∧ j.natAbs.log2 < 9000 then .ok (.int (i / j)) else .bad
  | _, _ => .bad
def dMod : D → D → O D
  | .int i, .int j => if 0 < j then .ok (.int (i % j)) else .bad
  | _, _ => .bad
def dPow : D → D → O D
  | .int i, .int j => if 0 ≤ j ∧ j ≤ 1000000 ∧ i.natAbs < 2 ^ 64 then .ok (.int (i ^ j.toNat)) else .bad
  | _, _ => .bad
def dNeg : D → O D
  | .int i => .ok (.int (-i))
  | _ => .bad
theorem opf_int {r : R2} {C : Int → Int → Prop} {g : Int → Int → Int} {op : D → D → O D}
    (hr : ∀ i j H Q, C i j → Q (V.int (g i j)) H → r (.int i) (.int j) H Q)
    (ho : ∀ d e z, op d e = .ok z → ∃ i j, d = .int i ∧ e = .int j ∧ C i j ∧ z = .int (g i j)) (hx : ∀ d e n, op d e ≠ .ex n) : OpF K c b r op := fun F H x y d e Q s rx ry q => by
  cases h : op d e with
  | ok z =>
    rw [h] at q
    obtain ⟨i, j, rfl, rfl, hc, rfl⟩ := ho d e z h
    rw [rx.int, ry.int]
    exact hr i j H Q hc (q _ _ _ (Ext.refl s) (by cases b with | true => exact .int _ | false => exact .inl (.int _)))
  | ex n => exact absurd h (hx d e n)
  | bad => rw [h] at q; exact q.elim
theorem opf_blI {r : R2} {g : Int → Int → Bool} {op : D → D → O D}
    (hr : ∀ i j H Q, Q (V.bl (g i j)) H → r (.int i) (.int j) H Q)
    (ho : ∀ d e z, op d e = .ok z → ∃ i j, d = .int i ∧ e = .int j ∧ z = .bool (g i j)) (hx : ∀ d e n, op d e ≠ .ex n) : OpF K c b r op := fun F H x y d e Q s rx ry q => by
  cases h : op d e with
  | ok z =>
    rw [h] at q
    obtain ⟨i, j, rfl, rfl, rfl⟩ := ho d e z h
    rw [rx.int, ry.int]
    exact hr i j H Q (q _ _ _ (Ext.refl s) (by cases b with | true => exact .bl _ | false => exact .inl (.bl _)))
  | ex n => exact absurd h (hx d e n)
  | bad => rw [h] at q; exact q.elim
theorem opf_sub : OpF K c b (rI0 fun i j => .int (i - j)) dSub := opf_int (C := fun _ _ => True) (fun i j H Q _ q => ⟨i, j, rfl, rfl, q⟩)
  (fun d e z h => by unfold dSub at h; split at h <;> first | (cases h; exact ⟨_, _, rfl, rfl, trivial, rfl⟩) | cases h) (fun d e n h => by unfold dSub at h; split at h <;> cases h)
theorem opf_mod : OpF K c b (rI (fun _ j => 0 < j) fun i j => .int (i % j)) dMod := opf_int (C := fun _ j => 0 < j) (fun i j H Q h q => ⟨i, j, rfl, rfl, h, q⟩)
  (fun d e z h => by unfold dMod at h; split at h <;> first | (split at h <;> first | (cases h; exact ⟨_, _, rfl, rfl, ‹_›, rfl⟩) | cases h) | cases h) (fun d e n h => by unfold dMod at h; split at h <;> (try split at h) <;> cases h)
theorem opf_fdiv : OpF K c b (rI CDivW fun i j => .int (i / j)) dFdiv := opf_int (C := CDivW) (fun i j H Q h q => ⟨i, j, rfl, rfl, h, q⟩)
  (fun d e z h => by unfold dFdiv at h; split at h <;> first | (split at h <;> first | (cases h; exact ⟨_, _, rfl, rfl, ‹_›, rfl⟩) | cases h) | cases h) (fun d e n h => by unfold dFdiv at h; split at h <;> (try split at h) <;> cases h)
theorem opf_pow : OpF K c b (rI CPow fun i j => .int (i ^ j.toNat)) dPow := opf_int (C := CPow) (fun i j H Q h q => ⟨i, j, rfl, rfl, h, q⟩)
  (fun d e z h => by unfold dPow at h; split at h <;> first | (split at h <;> first | (cases h; exact ⟨_, _, rfl, rfl, ‹_›, rfl⟩) | cases h) | cases h) (fun d e n h => by unfold dPow at h; split at h <;> (try split at h) <;> cases h)
theorem unf_neg : UnF K c b (rU fun i => .int (-i)) dNeg := fun F H x d Q s rx q => by
  unfold dNeg at q
  split at q
  · rename_i i
    have rx : Rep1 K c F H x (.int i) := rx
    rw [rx.int]
    exact ⟨i, rfl, q _ _ _ (Ext.refl s) (by cases b with | true => exact .int _ | false => exact .inl (.int _))⟩
  · exact q.elim
def dLt : D → D → O D
  | .int i, .int j => .ok (.bool (decide (i < j)))
  | _, _ => .bad
def dLe : D → D → O D
  | .int i, .int j => .ok (.bool (decide (i ≤ j)))
  | _, _ => .bad
def dGt : D → D → O D
  | .int i, .int j => .ok (.bool (decide (j < i)))
  | _, _ => .bad
def dGe : D → D → O D
  | .int i, .int j => .ok (.bool (decide (j ≤ i)))
  | _, _ => .bad
theorem opf_lt : OpF K c b (rI0 fun i j => .bl (decide (i < j))) dLt := opf_blI (fun i j H Q q => ⟨i, j, rfl, rfl, q⟩)
  (fun d e z h => by unfold dLt at h; split at h <;> first | (cases h; exact ⟨_, _, rfl, rfl, rfl⟩) | cases h) (fun d e n h => by unfold dLt at h; split at h <;> cases h)
theorem opf_le : OpF K c b (rI0 fun i j => .bl (decide (i ≤ j))) dLe := opf_blI (fun i j H Q q => ⟨i, j, rfl, rfl, q⟩)
  (fun d e z h => by unfold dLe at h; split at h <;> first | (cases h; exact ⟨_, _, rfl, rfl, rfl⟩) | cases h) (fun d e n h => by unfold dLe at h; split at h <;> cases h)
theorem opf_gt : OpF K c b (rI0 fun i j => .bl (decide (j < i))) dGt := opf_blI (fun i j H Q q => ⟨i, j, rfl, rfl, q⟩)
  (fun d e z h => by unfold dGt at h; split at h <;> first | (cases h; exact ⟨_, _, rfl, rfl, rfl⟩) | cases h) (fun d e n h => by unfold dGt at h; split at h <;> cases h)
theorem opf_ge : OpF K c b (rI0 fun i j => .bl (decide (j ≤ i))) dGe := opf_blI (fun i j H Q q => ⟨i, j, rfl, rfl, q⟩)
  (fun d e z h => by unfold dGe at h; split at h <;> first | (cases h; exact ⟨_, _, rfl, rfl, rfl⟩) | cases h) (fun d e n h => by unfold dGe at h; split at h <;> cases h)
/-! ### + -/
def dCat : D → D → O (List D)
  | .list xs, .list ys => if xs.length + ys.length ≤ lim then .ok (xs ++ ys) else .bad
  | _, _ => .bad
theorem opo_cat : OpO K c rCat dCat := fun F H x y d e Q s rx ry q => by
  unfold dCat at q
  split at q
  · rename_i xs ys
    have rx : Rep1 K c F H x (.list xs) := rx
    have ry : Rep1 K c F H y (.list ys) := ry
    split at q
    · rename_i hl
      obtain ⟨a, us, rfl, h1, r1⟩ := rx.lst s
      obtain ⟨a2, us2, rfl, h2, r2⟩ := ry.lst s
      refine ⟨a, a2, us, us2, rfl, rfl, h1, h2, by rw [r1.length, r2.length]; exact le_lim hl, fun p hp => ?_⟩
      exact q p _ _ F (Ext.newO s hp) upd_same (s.free hp) hp (r1.append r2)
    · exact q.elim
  · exact q.elim
theorem dCat_ex : ∀ d e n, dCat d e ≠ .ex n := fun d e n h => by
  unfold dCat at h
  split at h <;> (try split at h) <;> cases h
def rAddS : R2 := fun x y H Q => ∃ i j, x = .str i ∧ y = .str j ∧ i.length + j.length ≤ sizeLine ∧ Q (.str (i ++ j)) H
def rAddAll (K : PySem.W.Frag) : R2 := fun x y H Q => rI0 (fun i j => .int (i + j)) x y H Q ∨ rCat x y H Q ∨ rCatT K x y H Q ∨ rAddS x y H Q
theorem op_addAll {X : Cx} : OpR X (binaryOp .Add) (rAddAll X.K) := op_add.or (op_cat.or (op_catT.or op_add_str))
def dAdd : D → D → O D
  | .int i, .int j => .ok (.int (i + j))
  | .list xs, .list ys => if xs.length + ys.length ≤ lim then .ok (.list (xs ++ ys)) else .bad
  | .tuple xs, .tuple ys => if xs ≠ [] ∧ xs.length + ys.length ≤ lim then .ok (.tuple (xs ++ ys)) else .bad
  | .str i, .str j => if i.length + j.length ≤ lim then .ok (.str (i ++ j)) else .bad
  | _, _ => .bad
theorem RepB.of {v : V} {d : D} (r : Rep K c.cls F v d) : RepB K c b F H v d := by
  cases b with
  | true => exact r
  | false => exact .inl r
theorem opf_add : OpF K c b (rAddAll K) dAdd := fun F H x y d e Q s rx ry q => by
  unfold dAdd at q
  split at q
  · rename_i i j
    have rx : Rep1 K c F H x (.int i) := rx
    have ry : Rep1 K c F H y (.int j) := ry
    exact .inl ⟨i, j, rx.int, ry.int, q _ _ _ (Ext.refl s) (.of (.int _))⟩
  · rename_i xs ys
    have rx : Rep1 K c F H x (.list xs) := rx
    have ry : Rep1 K c F H y (.list ys) := ry
    split at q
    · rename_i hl
      obtain ⟨a, us, rfl, h1, r1⟩ := rx.lst s
      obtain ⟨a2, us2, rfl, h2, r2⟩ := ry.lst s
      refine .inr (.inl ⟨a, a2, us, us2, rfl, rfl, h1, h2, by rw [r1.length, r2.length]; exact le_lim hl, fun p hp => ?_⟩)
      exact q _ _ _ (Ext.new s hp) (.of (.ls upd_same ((r1.append r2).mono (same_upd (s.free hp)))))
    · exact q.elim
  · rename_i xs ys
    have rx : Rep1 K c F H x (.tuple xs) := rx
    have ry : Rep1 K c F H y (.tuple ys) := ry
    split at q
    · rename_i hl
      obtain ⟨a, us, rfl, h1, r1, rr⟩ := rx.tup s
      obtain ⟨a2, us2, rfl, h2, r2, _⟩ := ry.tup s
      have ne : us ≠ [] := fun z => by
        subst z
        cases r1
        exact hl.1 rfl
      refine .inr (.inr (.inl ⟨a, a2, us, us2, rfl, rfl, h1, h2, ne, by rw [r1.length, r2.length]; exact le_lim hl.2, fun z => ?_, fun z p hp => ?_⟩))
      · subst z
        cases r2
        have q := q (.ref a) H F (Ext.refl s)
        rw [List.append_nil] at q
        exact q (.of rr)
      · exact q _ _ _ (Ext.new s hp) (.of (.tp (SqT.of upd_same) ((r1.append r2).mono (same_upd (s.free hp)))))
    · exact q.elim
  · rename_i i j
    have rx : Rep1 K c F H x (.str i) := rx
    have ry : Rep1 K c F H y (.str j) := ry
    split at q
    · rename_i hl
      exact .inr (.inr (.inr ⟨i, j, rx.str, ry.str, le_lim hl, q _ _ _ (Ext.refl s) (.of (.str _))⟩))
    · exact q.elim
  · exact q.elim
/-! ### * -/
def dRep : D → D → O (List D)
  | .list xs, .int k => repL xs k
  | _, _ => .bad
theorem repL_ok {xs : List D} {k : Int} {ys : List D} (h : repL xs k = .ok ys) : -(lim : Int) ≤ k ∧ k ≤ lim ∧ xs.length * k.toNat ≤ lim ∧ ys = (List.replicate k.toNat xs).flatten := by
  unfold repL at h
  split at h
  · rename_i q
    cases h
    exact ⟨q.1, q.2.1, q.2.2, rfl⟩
  · cases h
theorem opo_rep : OpO K c rRep dRep := fun F H x y d e Q s rx ry q => by
  unfold dRep at q
  split at q
  · rename_i xs k
    have rx : Rep1 K c F H x (.list xs) := rx
    have ry : Rep1 K c F H y (.int k) := ry
    cases h : repL xs k with
    | ok ys =>
      rw [h] at q
      obtain ⟨h1, h2, h3, rfl⟩ := repL_ok h
      obtain ⟨a, us, rfl, h4, r1⟩ := rx.lst s
      refine ⟨a, k, us, rfl, ry.int, h4, by unfold lim at h1; omega, by unfold lim at h2; omega, by rw [r1.length]; exact le_lim h3, fun p hp => ?_⟩
      exact q p _ _ F (Ext.newO s hp) upd_same (s.free hp) hp (r1.rep _)
    | ex n => rw [h] at q; exact q.elim
    | bad => rw [h] at q; exact q.elim
  · exact q.elim
theorem dRep_ex : ∀ d e n, dRep d e ≠ .ex n := fun d e n h => by
  unfold dRep repL at h
  split at h <;> (try split at h) <;> cases h
def rMulAll (K : PySem.W.Frag) : R2 := fun x y H Q => rI CMulW (fun i j => .int (i * j)) x y H Q ∨ rI CMul (fun i j => .int (i * j)) x y H Q ∨ rRep x y H Q ∨ rRepT K x y H Q ∨ rRepT1 K x y H Q
theorem op_mulAll {X : Cx} : OpR X (binaryOp .Mult) (rMulAll X.K) := op_mulW.or (op_mul.or (op_rep.or (op_repT.or op_repT1)))
def dMul : D → D → O D
  | .int i, .int j => if mulOk i j = true then .ok (.int (i * j)) else .bad
  | .list xs, .int k => (repL xs k).bind fun ys => .ok (.list ys)
  | .tuple xs, .int k => if xs ≠ [] ∧ 1 ≤ k ∧ k ≤ 1000 ∧ xs.length ≤ 1000 then .ok (.tuple (List.replicate k.toNat xs).flatten) else .bad
  | _, _ => .bad
theorem opf_mul : OpF K c b (rMulAll K) dMul := fun F H x y d e Q s rx ry q => by
  unfold dMul at q
  split at q
  · rename_i i j
    have rx : Rep1 K c F H x (.int i) := rx
    have ry : Rep1 K c F H y (.int j) := ry
    split at q
    · rename_i h
      have h0 := q _ _ _ (Ext.refl s) (.of (.int _))
      unfold mulOk at h
      rw [Bool.or_eq_true, Bool.or_eq_true] at h
      rcases h with h | h | h
      · exact .inl ⟨i, j, rx.int, ry.int, of_decide_eq_true (p := i.natAbs.log2 + j.natAbs.log2 < 1000000) h, h0⟩
      · exact .inr (.inl ⟨i, j, rx.int, ry.int, .inl (of_decide_eq_true h), h0⟩)
      · exact .inr (.inl ⟨i, j, rx.int, ry.int, .inr (of_decide_eq_true h), h0⟩)
    · exact q.elim
  · rename_i xs k
    refine .inr (.inr (.inl (opo_rep F H x y (.list xs) (.int k) Q s rx ry ?_)))
    replace q := OPost.bind q
    refine OPost.imp (fun ds q a us H1 F1 e1 h1 h2 h3 r1 => ?_) (fun _ q => q) q
    exact q _ _ _ (e1.keep h3 h1) (.of (.ls upd_same (r1.mono (same_upd h2))))
  · rename_i xs k
    have rx : Rep1 K c F H x (.tuple xs) := rx
    have ry : Rep1 K c F H y (.int k) := ry
    split at q
    · rename_i hl
      obtain ⟨a, us, rfl, h1, r1, rr⟩ := rx.tup s
      have ne : us ≠ [] := fun z => by
        subst z
        cases r1
        exact hl.1 rfl
      by_cases h2 : k = 1
      · subst h2
        have e : (List.replicate (1 : Int).toNat xs).flatten = xs := by
          show (List.replicate 1 xs).flatten = xs
          rw [List.replicate_one, List.flatten_singleton]
        rw [e] at q
        exact .inr (.inr (.inr (.inr ⟨a, us, rfl, ry.int, h1, q _ _ _ (Ext.refl s) (.of rr)⟩)))
      · refine .inr (.inr (.inr (.inl ⟨a, k, us, rfl, ry.int, h1, ne, by omega, hl.2.2.1, by rw [r1.length]; exact hl.2.2.2, fun p hp => ?_⟩)))
        exact q _ _ _ (Ext.new s hp) (.of (.tp (SqT.of upd_same) ((r1.rep _).mono (same_upd (s.free hp)))))
    · exact q.elim
  · exact q.elim
/-! ### ==, !=, in -/
def scalD : D → D → Bool
  | .none, .none => true | .none, .int _ => true | .int _, .none => true | .none, .bool _ => true | .bool _, .none => true | .none, .str _ => true | .str _, .none => true
  | .int _, .int _ => true | .bool _, .bool _ => true | .str _, .str _ => true
  | .int _, .str _ => true | .str _, .int _ => true | .bool _, .str _ => true | .str _, .bool _ => true
  | _, _ => false
def okEq (d : D) : Bool := plainD d && SeqAt.shaped d
def dEq (d e : D) : O D := if (scalD d e || (okEq d && okEq e)) = true then .ok (.bool (PyData.eqv d e)) else .bad
def dNe (d e : D) : O D := if (scalD d e || (okEq d && okEq e)) = true then .ok (.bool (!PyData.eqv d e)) else .bad
theorem scal_of {v w : V} {d e : D} (rx : Rep1 K c F H v d) (ry : Rep1 K c F H w e) (h : scalD d e = true) : scal v w = true ∧ decide (v = w) = PyData.eqv d e := by
  unfold scalD at h
  split at h <;> first
    | (cases h; done)
    | (simp only [rx.non, ry.non, rx.int, ry.int, rx.bl, ry.bl, rx.str, ry.str]; exact ⟨rfl, rfl⟩)
    | (rw [rx.non, ry.non]; exact ⟨rfl, rfl⟩)
    | (rw [rx.non, ry.int]; exact ⟨rfl, rfl⟩)
    | (rw [rx.int, ry.non]; exact ⟨rfl, rfl⟩)
    | (rw [rx.non, ry.bl]; exact ⟨rfl, rfl⟩)
    | (rw [rx.bl, ry.non]; exact ⟨rfl, rfl⟩)
    | (rw [rx.non, ry.str]; exact ⟨rfl, rfl⟩)
    | (rw [rx.str, ry.non]; exact ⟨rfl, rfl⟩)
    | (rw [rx.int, ry.int]; exact ⟨rfl, dec_int⟩)
    | (rw [rx.bl, ry.bl]; exact ⟨rfl, dec_bl⟩)
    | (rw [rx.str, ry.str]; exact ⟨rfl, dec_str⟩)
    | (rw [rx.int, ry.str]; exact ⟨rfl, rfl⟩)
    | (rw [rx.str, ry.int]; exact ⟨rfl, rfl⟩)
    | (rw [rx.bl, ry.str]; exact ⟨rfl, rfl⟩)
    | (rw [rx.str, ry.bl]; exact ⟨rfl, rfl⟩)
def rEqAll (K : PySem.W.Frag) : R2 := fun x y H Q => rEq x y H Q ∨ rEqD K x y H Q
def rNeAll (K : PySem.W.Frag) : R2 := fun x y H Q => rNe x y H Q ∨ rNeD K x y H Q
theorem op_eqAll {X : Cx} (hu : X.A.units + 64 < cLine) : OpR X (compareOp .Eq) (rEqAll X.K) := op_eq.or (op_eqD hu)
theorem op_neAll {X : Cx} (hu : X.A.units + 64 < cLine) : OpR X (compareOp .NotEq) (rNeAll X.K) := op_ne.or (op_neD hu)
theorem opf_eq : OpF K c b (rEqAll K) dEq := fun F H x y d e Q s rx ry q => by
  unfold dEq at q
  split at q
  · rename_i h
    have h0 := q _ _ _ (Ext.refl s) (.of (.bl _))
    rw [Bool.or_eq_true] at h
    rcases h with h | h
    · obtain ⟨h1, h2⟩ := scal_of rx ry h
      exact .inl ⟨h1, by rw [h2]; exact h0⟩
    · unfold okEq at h
      simp only [Bool.and_eq_true] at h
      exact .inr ⟨d, e, (rx.full s).dp h.1.1, (ry.full s).dp h.2.1, h.1.2, h.2.2, h0⟩
  · exact q.elim
theorem opf_ne : OpF K c b (rNeAll K) dNe := fun F H x y d e Q s rx ry q => by
  unfold dNe at q
  split at q
  · rename_i h
    have h0 := q _ _ _ (Ext.refl s) (.of (.bl _))
    rw [Bool.or_eq_true] at h
    rcases h with h | h
    · obtain ⟨h1, h2⟩ := scal_of rx ry h
      exact .inl ⟨h1, by rw [h2]; exact h0⟩
    · unfold okEq at h
      simp only [Bool.and_eq_true] at h
      exact .inr ⟨d, e, (rx.full s).dp h.1.1, (ry.full s).dp h.2.1, h.1.2, h.2.2, h0⟩
  · exact q.elim
def flatD : D → Bool
  | .none | .bool _ | .int _ | .str _ => true
  | _ => false
theorem flat_of {v : V} {d : D} (r : Rep1 K c F H v d) (h : flatD d = true) : flatV v = true := by
  unfold flatD at h
  split at h <;> first
    | (cases h; done)
    | (rw [r.non]; rfl) | (rw [r.bl]; rfl) | (rw [r.int]; rfl) | (rw [r.str]; rfl)
theorem eqV_of {v w : V} {d e : D} (rx : Rep1 K c F H v d) (ry : Rep1 K c F H w e) (hx : flatD d = true) (hy : flatD e = true) : eqV v w = PyData.eqv d e := by
  unfold flatD at hx hy
  split at hx <;> first
    | (cases hx; done)
    | (split at hy <;> first
        | (cases hy; done)
        | (rw [rx.non, ry.non]; rfl) | (rw [rx.non, ry.bl]; rfl) | (rw [rx.non, ry.int]; rfl) | (rw [rx.non, ry.str]; rfl)
        | (rw [rx.bl, ry.non]; rfl) | (rw [rx.bl, ry.bl]; rfl) | (rw [rx.bl, ry.int]; rfl) | (rw [rx.bl, ry.str]; rfl)
        | (rw [rx.int, ry.non]; rfl) | (rw [rx.int, ry.bl]; rfl) | (rw [rx.int, ry.int]; rfl) | (rw [rx.int, ry.str]; rfl)
        | (rw [rx.str, ry.non]; rfl) | (rw [rx.str, ry.bl]; rfl) | (rw [rx.str, ry.int]; rfl) | (rw [rx.str, ry.str]; rfl))
theorem flats_of : ∀ {xs : List V} {ds : List D}, RepL K c.cls F xs ds → ds.all flatD = true → xs.all flatV = true
  | _, _, .nil, _ => rfl
  | _, _, .cons r t, h => by
    rw [List.all_cons, Bool.and_eq_true] at h ⊢
    exact ⟨flat_of (H := F) (.inl r) h.1, flats_of t h.2⟩
theorem inV_of {v : V} {d : D} (rx : Rep1 K c F H v d) (hx : flatD d = true) : ∀ {xs : List V} {ds : List D}, RepL K c.cls F xs ds → ds.all flatD = true → inV v xs = ds.any fun e => PyData.eqv e d
  | _, _, .nil, _ => rfl
  | _, _, .cons (v := w) (vs := ws) (d := e) (ds := es) r t, h => by
    rw [List.all_cons, Bool.and_eq_true] at h
    have h1 : eqV w v = PyData.eqv e d := eqV_of (H := H) (.inl r) rx h.1 hx
    have h2 := inV_of rx hx t h.2
    unfold inV at h2 ⊢
    rw [List.any_cons, List.any_cons, h1, h2]
def rInS (neg : Bool) : R2 := fun x y H Q => ∃ i j, x = .str i ∧ y = .str j ∧ Q (.bl (if neg then !(!(Builtin.Str.occurrences j i 0 j.length 1).isEmpty) else !(Builtin.Str.occurrences j i 0 j.length 1).isEmpty)) H
def rInAll (K : PySem.W.Frag) (neg : Bool) : R2 := fun x y H Q => rIn K neg x y H Q ∨ rInS neg x y H Q
theorem op_inAll {X : Cx} : OpR X (compareOp .In) (rInAll X.K false) := op_in_seq.or op_in_str
theorem op_notInAll {X : Cx} : OpR X (compareOp .NotIn) (rInAll X.K true) := op_notIn_seq.or op_notIn_str
def dInB : D → D → O Bool
  | d, .list es => if (flatD d && es.all flatD) = true then .ok (es.any fun e => PyData.eqv e d) else .bad
  | d, .tuple es => if (flatD d && es.all flatD) = true then .ok (es.any fun e => PyData.eqv e d) else .bad
  | .str i, .str j => .ok (!(Builtin.Str.occurrences j i 0 j.length 1).isEmpty)
  | _, _ => .bad
def negB : Bool → Bool → Bool
  | true, k => !k
  | false, k => k
theorem negB_if (neg k : Bool) : (if neg = true then !k else k) = negB neg k := by cases neg <;> rfl
def dIn (neg : Bool) (d e : D) : O D := (dInB d e).bind fun k => .ok (.bool (negB neg k))
theorem opf_in {neg : Bool} : OpF K c b (rInAll K neg) (dIn neg) := fun F H x y d e Q s rx ry q => by
  replace q := OPost.bind q
  unfold dInB at q
  split at q
  · rename_i es
    have ry : Rep1 K c F H y (.list es) := ry
    split at q
    · rename_i h
      rw [Bool.and_eq_true] at h
      obtain ⟨a, us, rfl, h1, r1⟩ := ry.lst s
      refine .inl ⟨a, us, rfl, .inl (SqL.of h1), flat_of rx h.1, flats_of r1 h.2, ?_⟩
      rw [inV_of rx h.1 r1 h.2, negB_if]
      exact q _ _ _ (Ext.refl s) (.of (.bl _))
    · exact q.elim
  · rename_i es
    have ry : Rep1 K c F H y (.tuple es) := ry
    split at q
    · rename_i h
      rw [Bool.and_eq_true] at h
      obtain ⟨a, us, rfl, h1, r1, _⟩ := ry.tup s
      refine .inl ⟨a, us, rfl, .inr h1, flat_of rx h.1, flats_of r1 h.2, ?_⟩
      rw [inV_of rx h.1 r1 h.2, negB_if]
      exact q _ _ _ (Ext.refl s) (.of (.bl _))
    · exact q.elim
  · rename_i i j
    have rx : Rep1 K c F H x (.str i) := rx
    have ry : Rep1 K c F H y (.str j) := ry
    refine .inr ⟨i, j, rx.str, ry.str, ?_⟩
    rw [negB_if]
    exact q _ _ _ (Ext.refl s) (.of (.bl _))
  · exact q.elim
def isNon : D → Bool
  | .none => true
  | _ => false
theorem isNon_of {v : V} {d : D} (r : Rep1 K c F H v d) : decide (v = .non) = isNon d := by
  rcases r with r | ⟨a, xs, ds, rfl, rfl, _⟩
  · cases r <;> rfl
  · rfl
def dIsN (d e : D) : O D := if isNon e = true then .ok (.bool (isNon d)) else .bad
def dNotN (d e : D) : O D := if isNon e = true then .ok (.bool (!isNon d)) else .bad
theorem non_of {v : V} {d : D} (r : Rep1 K c F H v d) (h : isNon d = true) : v = .non := by
  unfold isNon at h
  split at h
  · exact r.non
  · cases h
theorem opf_isN : OpF K c b (fun x y H Q => y = .non ∧ Q (.bl (decide (x = .non))) H) dIsN := fun F H x y d e Q s rx ry q => by
  unfold dIsN at q
  split at q
  · rename_i h
    refine ⟨non_of ry h, ?_⟩
    rw [isNon_of rx]
    exact q _ _ _ (Ext.refl s) (.of (.bl _))
  · exact q.elim
theorem opf_notN : OpF K c b (fun x y H Q => y = .non ∧ Q (.bl (!decide (x = .non))) H) dNotN := fun F H x y d e Q s rx ry q => by
  unfold dNotN at q
  split at q
  · rename_i h
    refine ⟨non_of ry h, ?_⟩
    rw [isNon_of rx]
    exact q _ _ _ (Ext.refl s) (.of (.bl _))
  · exact q.elim
/-! ### subscripts -/
def dIx : D → D → O D
  | .list ds, .int i => match atI ds i with
    | some d => .ok d
    | none => .bad
  | .tuple ds, .int i => match atI ds i with
    | some d => .ok d
    | none => .bad
  | .dict [(.none, .list ds)], .int i => match atI ds i with
    | some d => .ok d
    | none => .bad
  | .str z, .int i => if z.length ≤ lim then (match atI z.cps.toList i with
    | some x => .ok (.str ⟨#[x]⟩)
    | none => .bad) else .bad
  | _, _ => .bad
theorem atI_rep {xs : List V} {ds : List D} {i : Int} {d : D} (r : RepL K c.cls F xs ds) (h : atI ds i = some d) : ∃ v, atI xs i = some v ∧ Rep K c.cls F v d := by
  unfold atI at h ⊢
  rw [r.length]
  cases e : ixN ds.length i with
  | none => rw [e] at h; cases h
  | some j =>
    rw [e] at h
    exact r.get h
theorem opf_ix : OpF K c b (rIx K) dIx := fun F H x y d e Q s rx ry q => by
  unfold dIx at q
  split at q
  · rename_i ds i
    have rx : Rep1 K c F H x (.list ds) := rx
    have ry : Rep1 K c F H y (.int i) := ry
    split at q
    · rename_i d h
      obtain ⟨a, us, rfl, h1, r1⟩ := rx.lst s
      obtain ⟨v, h2, r2⟩ := atI_rep r1 h
      exact .inl ⟨a, us, i, v, rfl, ry.int, SqL.of h1, h2, q _ _ _ (Ext.refl s) (.of r2)⟩
    · exact q.elim
  · rename_i ds i
    have rx : Rep1 K c F H x (.tuple ds) := rx
    have ry : Rep1 K c F H y (.int i) := ry
    split at q
    · rename_i d h
      obtain ⟨a, us, rfl, h1, r1, _⟩ := rx.tup s
      obtain ⟨v, h2, r2⟩ := atI_rep r1 h
      exact .inr (.inl ⟨a, us, i, v, rfl, ry.int, h1, h2, q _ _ _ (Ext.refl s) (.of r2)⟩)
    · exact q.elim
  · rename_i ds i
    have rx : Rep1 K c F H x (D.ro ds) := rx
    have ry : Rep1 K c F H y (.int i) := ry
    split at q
    · rename_i d h
      obtain ⟨a, us, rfl, h1, r1⟩ := rx.roL s
      obtain ⟨v, h2, r2⟩ := atI_rep r1 h
      exact .inl ⟨a, us, i, v, rfl, ry.int, h1, h2, q _ _ _ (Ext.refl s) (.of r2)⟩
    · exact q.elim
  · rename_i z i
    have rx : Rep1 K c F H x (.str z) := rx
    have ry : Rep1 K c F H y (.int i) := ry
    split at q
    · rename_i hl
      split at q
      · rename_i d h
        exact .inr (.inr ⟨z, i, d, rx.str, ry.int, le_lim hl, h, q _ _ _ (Ext.refl s) (.of (.str _))⟩)
      · exact q.elim
    · exact q.elim
  · exact q.elim
end
end Fn

set_option Elab.async false
set_option linter.all false
set_option maxRecDepth 100000
/-! Slices, fields, built-in calls, own defs by data. -/
namespace Fn
open PySem PySem.Spec L2

section
variable {K : PySem.W.Frag} {c : Ct} {own : List Nat} {b : Bool} {F H F' H' : Hp} {σ : St} {ρ : Rho}
/-! ### slices -/
def PP1 (c : Ct) (σ : St) (F H : Hp) (Q : Option Int → Hp → Prop) : O (Option Int) → Prop := OPost (fun k => ∀ H' F', Ext F H F' H' → Q k H') fun n => ∀ H', Same H H' → c.W (.ref (c.xc n)) none σ H'
def FP (K : PySem.W.Frag) (c : Ct) (own : List Nat) (t : TO) (g : Rho → O (Option Int)) : Prop := ∀ σ H F ρ Q, Sim K c.cls c.B own σ H F ρ → PP1 c σ F H Q (g ρ) → t σ H Q
def gNoP : Rho → O (Option Int) := fun _ => .ok none
def gPart (g : Rho → O D) : Rho → O (Option Int) := fun ρ => (g ρ).bind fun d => match d with
  | .int i => .ok (some i)
  | _ => .bad
theorem fp_none : FP K c own tNoPart gNoP := fun σ H F ρ Q S q => q H F (Ext.refl S.s)
theorem fp_some {t : TE} {g : Rho → O D} (h : FE K c own false t g) : FP K c own (tPart t) (gPart g) := fun σ H F ρ Q S q => by
  refine h σ H F ρ _ S (OPost.imp (fun d q v H1 F1 e1 r1 => ?_) (fun _ q => q) (OPost.bind q))
  split at q
  · rename_i i
    have r1 : Rep1 K c F1 H1 v (.int i) := r1
    exact ⟨i, r1.int, q H1 F1 e1⟩
  · exact q.elim
def cutL {α : Type} (xs : List α) (lo hi : Option Int) : List α := (xs.drop (HT.sIx xs.length 0 lo)).take (HT.sIx xs.length xs.length hi - HT.sIx xs.length 0 lo)
theorem cut_rep {xs : List V} {ds : List D} (r : RepL K c.cls F xs ds) (lo hi : Option Int) : RepL K c.cls F (cutV xs lo hi) (cutL ds lo hi) := by
  unfold cutV cutL
  rw [r.length]
  exact RepL.take _ (RepL.drop _ r)
def wholeCut (n : Nat) (lo hi : Option Int) : Bool := decide (HT.sIx n 0 lo = 0) && decide (HT.sIx n n hi = n)
def rSlAll (K : PySem.W.Frag) : V → Option Int → Option Int → Hp → VK → Prop := fun x lo hi H Q => rSlL K x lo hi H Q ∨ rSlT K x lo hi H Q ∨ rSlS x lo hi H Q
theorem sl_all {X : Cx} : SlR X (rSlAll X.K) := sl_list.or (sl_tup.or sl_str)
def dSl : D → Option Int → Option Int → O D
  | .list ds, lo, hi => .ok (.list (cutL ds lo hi))
  | .tuple ds, lo, hi => if wholeCut ds.length lo hi = true then .bad else .ok (.tuple (cutL ds lo hi))
  | .str z, lo, hi => if z.length ≤ lim then .ok (.str (cutS z lo hi)) else .bad
  | _, _, _ => .bad
def gSl (g : Rho → O D) (gl gh : Rho → O (Option Int)) : Rho → O D := fun ρ => (g ρ).bind fun d => (gl ρ).bind fun lo => (gh ρ).bind fun hi => dSl d lo hi
theorem dSl_ex : ∀ d lo hi n, dSl d lo hi ≠ .ex n := fun d lo hi n h => by
  unfold dSl at h
  split at h <;> (try split at h) <;> cases h
theorem fe_slice {t : TE} {tl th : TO} {g : Rho → O D} {gl gh : Rho → O (Option Int)} (h : FE K c own false t g) (hl : FP K c own tl gl) (hh : FP K c own th gh) : FE K c own b (tSl (rSlAll K) t tl th) (gSl g gl gh) := fun σ H F ρ Q S q => by
  refine h σ H F ρ _ S (OPost.imp (fun d q v H1 F1 e1 r1 => ?_) (fun _ q => q) (OPost.bind q))
  refine hl σ H1 F1 ρ _ (S.ext e1) (OPost.imp (fun lo q H2 F2 e2 => ?_) (fun _ q H2 s => q H2 (e1.h.trans s)) (OPost.bind q))
  refine hh σ H2 F2 ρ _ ((S.ext e1).ext e2) (OPost.imp (fun hi q H3 F3 e3 => ?_) (fun _ q H2 s => q H2 ((e1.trans e2).h.trans s)) (OPost.bind q))
  have r3 : Rep1 K c F3 H3 v d := Rep1.ext r1 (e2.trans e3)
  have e := (e1.trans e2).trans e3
  unfold dSl at q
  split at q
  · rename_i ds _ _
    have r3 : Rep1 K c F3 H3 v (.list ds) := r3
    obtain ⟨a, us, rfl, h1, r⟩ := r3.lst e.s
    exact .inl ⟨a, us, rfl, SqL.of h1, fun p hp => q _ _ _ (e.trans (Ext.new e.s hp)) (.of (.ls upd_same ((cut_rep r _ _).mono (same_upd (e.s.free hp)))))⟩
  · rename_i ds _ _
    have r3 : Rep1 K c F3 H3 v (.tuple ds) := r3
    obtain ⟨a, us, rfl, h1, r, _⟩ := r3.tup e.s
    split at q
    · exact q.elim
    · rename_i hw
      refine .inr (.inl ⟨a, us, rfl, h1, fun z => hw ?_, fun p hp => q _ _ _ (e.trans (Ext.new e.s hp)) (.of (.tp (SqT.of upd_same) ((cut_rep r _ _).mono (same_upd (e.s.free hp)))))⟩)
      unfold wholeCut
      rw [← r.length, decide_eq_true z.1, decide_eq_true z.2]
      rfl
  · rename_i z _ _
    have r3 : Rep1 K c F3 H3 v (.str z) := r3
    split at q
    · rename_i hl
      exact .inr (.inr ⟨z, r3.str, le_lim hl, q _ _ _ e (.of (.str _))⟩)
    · exact q.elim
  · exact q.elim
def dSlL : D → Option Int → Option Int → O D
  | .list ds, lo, hi => .ok (.list (cutL ds lo hi))
  | _, _, _ => .bad
def gSlL (g : Rho → O D) (gl gh : Rho → O (Option Int)) : Rho → O D := fun ρ => (g ρ).bind fun d => (gl ρ).bind fun lo => (gh ρ).bind fun hi => dSlL d lo hi
theorem fo_slice {t : TE} {tl th : TO} {g : Rho → O D} {gl gh : Rho → O (Option Int)} (h : FE K c own false t g) (hl : FP K c own tl gl) (hh : FP K c own th gh) : FO K c own (tSl (rSlL K) t tl th) (gSlL g gl gh) := fun σ H F ρ Q S q => by
  refine h σ H F ρ _ S (OPost.imp (fun d q v H1 F1 e1 r1 => ?_) (fun _ q => q) (OPost.bind q))
  refine hl σ H1 F1 ρ _ (S.ext e1) (OPost.imp (fun lo q H2 F2 e2 => ?_) (fun _ q H2 s => q H2 (e1.h.trans s)) (OPost.bind q))
  refine hh σ H2 F2 ρ _ ((S.ext e1).ext e2) (OPost.imp (fun hi q H3 F3 e3 => ?_) (fun _ q H2 s => q H2 ((e1.trans e2).h.trans s)) (OPost.bind q))
  have r3 : Rep1 K c F3 H3 v d := Rep1.ext r1 (e2.trans e3)
  have e := (e1.trans e2).trans e3
  unfold dSlL at q
  split at q
  · rename_i ds _ _
    have r3 : Rep1 K c F3 H3 v (.list ds) := r3
    obtain ⟨a, us, rfl, h1, r⟩ := r3.lst e.s
    obtain ⟨es, ee, q⟩ := q
    cases ee
    exact ⟨a, us, rfl, SqL.of h1, fun p hp => q p _ _ F3 (e.trans (Ext.newO e.s hp)) upd_same (e.s.free hp) (e.h.free hp) (cut_rep r _ _)⟩
  · exact q.elim
/-! ### fields -/
def gFld (f : Str) (k : Nat) (g : Rho → O D) : Rho → O D := fun ρ => (g ρ).bind fun d => match d with
  | .dict ((.bool true, .int j) :: gs) => if j = (k : Int) then (match fieldD f gs with
    | some e => .ok e
    | none => .bad) else .bad
  | _ => .bad
theorem fe_fld {t : TE} {g : Rho → O D} {f : Str} {k : Nat} (cl : Cls K (c.cls k)) (na : NoAttr K (c.cls k) f) (h : FE K c own false t g) : FE K c own b (tFld K t f) (gFld f k g) := fun σ H F ρ Q S q => by
  refine h σ H F ρ _ S (OPost.imp (fun d q v H1 F1 e1 r1 => ?_) (fun _ q => q) (OPost.bind q))
  split at q
  · rename_i j gs
    split at q
    · rename_i hj
      subst hj
      split at q
      · rename_i e hf
        have r1 : Rep1 K c F1 H1 v (D.ob k gs) := r1
        obtain ⟨a, dx, fs, rfl, h1, rf⟩ := r1.obj e1.s
        obtain ⟨w, h2, r2⟩ := rf.lookup hf
        exact ⟨a, c.cls k, dx, fs, w, rfl, h1, cl, na, h2, q _ _ _ e1 (.of r2)⟩
      · exact q.elim
    · exact q.elim
  · exact q.elim
/-! ### built-in calls -/
def bLen : List D → O D
  | [.list ds] => .ok (.int ds.length)
  | [.tuple ds] => .ok (.int ds.length)
  | [.dict [(.none, .list ds)]] => .ok (.int ds.length)
  | [.str z] => if z.length ≤ lim then .ok (.int z.length) else .bad
  | _ => .bad
theorem paired1 {α β : Type} {G : α → β → Prop} {xs : List α} {y : β} (h : Paired G xs [y]) : ∃ x, xs = [x] ∧ G x y := by
  cases h with
  | cons r t => cases t; exact ⟨_, rfl, r⟩
theorem paired2 {α β : Type} {G : α → β → Prop} {xs : List α} {y z : β} (h : Paired G xs [y, z]) : ∃ x x', xs = [x, x'] ∧ G x y ∧ G x' z := by
  cases h with
  | cons r t =>
    obtain ⟨x', rfl, r'⟩ := paired1 t
    exact ⟨_, _, rfl, r, r'⟩
theorem cf_len : CallF K c b (fun xs H Q => ∃ x n, xs = [x] ∧ LenV K x H n ∧ Q (.int n) H) bLen := fun F H xs ds Q s r q => by
  unfold bLen at q
  split at q
  · rename_i ds
    obtain ⟨x, rfl, rr⟩ := paired1 r
    have r : Rep1 K c F H x (.list ds) := rr
    obtain ⟨a, us, rfl, h1, r1⟩ := r.lst s
    exact ⟨_, us.length, rfl, .inl ⟨us, SqL.of h1, rfl⟩, by rw [r1.length]; exact q _ _ _ (Ext.refl s) (.of (.int _))⟩
  · rename_i ds
    obtain ⟨x, rfl, rr⟩ := paired1 r
    have r : Rep1 K c F H x (.tuple ds) := rr
    obtain ⟨a, us, rfl, h1, r1, _⟩ := r.tup s
    exact ⟨_, us.length, rfl, .inr ⟨us, h1, rfl⟩, by rw [r1.length]; exact q _ _ _ (Ext.refl s) (.of (.int _))⟩
  · rename_i ds
    obtain ⟨x, rfl, rr⟩ := paired1 r
    have r : Rep1 K c F H x (D.ro ds) := rr
    obtain ⟨a, us, rfl, h1, r1⟩ := r.roL s
    exact ⟨_, us.length, rfl, .inl ⟨us, h1, rfl⟩, by rw [r1.length]; exact q _ _ _ (Ext.refl s) (.of (.int _))⟩
  · rename_i z
    obtain ⟨x, rfl, rr⟩ := paired1 r
    have r : Rep1 K c F H x (.str z) := rr
    split at q
    · rename_i hl
      exact ⟨_, z.length, rfl, by rw [r.str]; exact ⟨le_lim hl, rfl⟩, q _ _ _ (Ext.refl s) (.of (.int _))⟩
    · exact q.elim
  · exact q.elim
/-- list(x): a new list -/
def rListOf (K : PySem.W.Frag) : List V → Hp → VK → Prop := fun xs H Q => ∃ p ys, xs = [.ref p] ∧ (SqL K H p ys ∨ SqT K H p ys) ∧ ∀ l, H l = none → Q (.ref l) (upd H l (.lst ys))
def bListL : List D → O (List D)
  | [.list ds] => .ok ds
  | [.tuple ds] => .ok ds
  | [.dict [(.none, .list ds)]] => .ok ds
  | _ => .bad
def gListOf (g : Rho → O (List D)) : Rho → O D := fun ρ => (g ρ).bind fun ds => (bListL ds).bind fun es => .ok (.list es)
theorem fo_listOf {t : TA} {g : Rho → O (List D)} (h : FA K c own false t g) : FO K c own (tCB (rListOf K) t) (gListOf g) := fun σ H F ρ Q S q => by
  refine h σ H F ρ _ S (OPost.imp (fun ds q vs H1 F1 e r1 => ?_) (fun _ q => q) (OPost.bind q))
  replace q := OPost.bind q
  unfold bListL at q
  split at q
  · rename_i ds
    obtain ⟨x, rfl, rr⟩ := paired1 (show Paired (Rep1 K c F1 H1) vs [PyData.list ds] from r1)
    have r : Rep1 K c F1 H1 x (.list ds) := rr
    obtain ⟨a, us, rfl, h1, r2⟩ := r.lst e.s
    obtain ⟨es, ee, q⟩ := q
    cases ee
    exact ⟨a, us, rfl, .inl (SqL.of h1), fun p hp => q p _ _ F1 (e.trans (Ext.newO e.s hp)) upd_same (e.s.free hp) (e.h.free hp) r2⟩
  · rename_i ds
    obtain ⟨x, rfl, rr⟩ := paired1 (show Paired (Rep1 K c F1 H1) vs [PyData.tuple ds] from r1)
    have r : Rep1 K c F1 H1 x (.tuple ds) := rr
    obtain ⟨a, us, rfl, h1, r2, _⟩ := r.tup e.s
    obtain ⟨es, ee, q⟩ := q
    cases ee
    exact ⟨a, us, rfl, .inr h1, fun p hp => q p _ _ F1 (e.trans (Ext.newO e.s hp)) upd_same (e.s.free hp) (e.h.free hp) r2⟩
  · rename_i ds
    obtain ⟨x, rfl, rr⟩ := paired1 (show Paired (Rep1 K c F1 H1) vs [D.ro ds] from r1)
    have r : Rep1 K c F1 H1 x (D.ro ds) := rr
    obtain ⟨a, us, rfl, h1, r2⟩ := r.roL e.s
    obtain ⟨es, ee, q⟩ := q
    cases ee
    exact ⟨a, us, rfl, .inl h1, fun p hp => q p _ _ F1 (e.trans (Ext.newO e.s hp)) upd_same (e.s.free hp) (e.h.free hp) r2⟩
  · exact q.elim
theorem gListOf_list {g : Rho → O (List D)} : ∀ ρ d, gListOf g ρ = .ok d → ∃ ds, d = .list ds := fun ρ d h => by
  unfold gListOf at h
  cases e : g ρ with
  | ok ds =>
    rw [e, O.bind_ok] at h
    cases e2 : bListL ds with
    | ok es => rw [e2, O.bind_ok] at h; cases h; exact ⟨_, rfl⟩
    | ex n => rw [e2] at h; cases h
    | bad => rw [e2] at h; cases h
  | ex n => rw [e] at h; cases h
  | bad => rw [e] at h; cases h
theorem fe_listOf {t : TA} {g : Rho → O (List D)} (h : FA K c own false t g) : FE K c own b (tCB (rListOf K) t) (gListOf g) := (fo_listOf h).fe gListOf_list
/-- tuple(x) -/
def rTupOf (K : PySem.W.Frag) : List V → Hp → VK → Prop := fun xs H Q => ∃ p ys, xs = [.ref p] ∧ ((SqL K H p ys ∧ ∀ l, H l = none → Q (.ref l) (upd H l (.tup ys))) ∨ (SqT K H p ys ∧ Q (.ref p) H))
def bTup : List D → O D
  | [.list ds] => .ok (.tuple ds)
  | [.tuple ds] => .ok (.tuple ds)
  | _ => .bad
theorem cf_tup : CallF K c b (rTupOf K) bTup := fun F H xs ds Q s r q => by
  unfold bTup at q
  split at q
  · rename_i ds
    obtain ⟨x, rfl, rr⟩ := paired1 r
    have r : Rep1 K c F H x (.list ds) := rr
    obtain ⟨a, us, rfl, h1, r1⟩ := r.lst s
    exact ⟨a, us, rfl, .inl ⟨SqL.of h1, fun l hl => q _ _ _ (Ext.new s hl) (.of (.tp (SqT.of upd_same) (r1.mono (same_upd (s.free hl)))))⟩⟩
  · rename_i ds
    obtain ⟨x, rfl, rr⟩ := paired1 r
    have r : Rep1 K c F H x (.tuple ds) := rr
    obtain ⟨a, us, rfl, h1, r1, rr⟩ := r.tup s
    exact ⟨a, us, rfl, .inr ⟨h1, q _ _ _ (Ext.refl s) (.of rr)⟩⟩
  · exact q.elim
/-- isinstance(x, T), T a built-in class -/
def tyD : D → Option String
  | .none => some "NoneType"
  | .bool _ => some "bool"
  | .int _ => some "int"
  | .str _ => some "str"
  | .list _ => some "list"
  | .tuple _ => some "tuple"
  | .dict [(.none, .list _)] => some "list"
  | .dict _ => none
theorem ty_of {v : V} {d : D} {t : String} (r : Rep1 K c F H v d) (s : Same F H) (h : tyD d = some t) : TyX K H v (.type t) := by
  unfold tyD at h
  split at h <;> (try (cases h; done))
  all_goals (cases h)
  · rw [r.non]; exact .base .non
  · rw [r.bl]; exact .base (.bl _)
  · rw [r.int]; exact .base (.int _)
  · rw [r.str]; exact .base (.str _)
  · obtain ⟨a, us, rfl, h1, _⟩ := r.lst s
    exact .base (.lst h1)
  · obtain ⟨a, us, rfl, h1, _⟩ := r.tup s
    rcases h1 with (h1 | ⟨o, h1⟩) | ⟨o, its, n, h1, h2, _⟩
    · exact .base (.tup h1)
    · exact .fTuple h1
    · exact .kTuple h1 h2
  · obtain ⟨a, us, rfl, h1, _⟩ := r.roL s
    rcases h1 with (h1 | ⟨o, h1⟩) | ⟨o, its, n, h1, h2, _⟩
    · exact .base (.lst h1)
    · exact .base (.frz h1)
    · exact .kList h1 h2
def isTy (t u : String) : Bool := t == u || (t == "bool" && u == "int")
def bIsi (T : String) (d : D) : O D := match tyD d with
  | some t => .ok (.bool (isTy t T))
  | none => .bad
def KitOk (T : String) : Prop := ∀ t ∈ ["NoneType", "bool", "int", "str", "list", "tuple"], kitB t T = some (isTy t T)
theorem tyD_mem {d : D} {t : String} (h : tyD d = some t) : t ∈ ["NoneType", "bool", "int", "str", "list", "tuple"] := by
  unfold tyD at h
  split at h <;> first | (cases h; simp) | cases h
theorem kit_int : KitOk "int" := by unfold KitOk; decide +kernel
theorem kit_bool : KitOk "bool" := by unfold KitOk; decide +kernel
theorem kit_str : KitOk "str" := by unfold KitOk; decide +kernel
theorem kit_list : KitOk "list" := by unfold KitOk; decide +kernel
theorem kit_tuple : KitOk "tuple" := by unfold KitOk; decide +kernel
def gIsi (T : String) (g : Rho → O D) : Rho → O D := fun ρ => (g ρ).bind (bIsi T)
theorem fe_isi {T : String} {t : TE} {g : Rho → O D} (kt : KitOk T) (h : FE K c own false t g) : FE K c own b (tCB (rIsi K) (tCons t (tCons (tC (.ty T)) tNil))) (gIsi T g) := FE.any fun σ H F ρ Q S q => by
  refine h σ H F ρ _ S (OPost.imp (fun d q v H1 F1 e r1 => ?_) (fun _ q => q) (OPost.bind q))
  unfold bIsi at q
  split at q
  · rename_i t ht
    exact ⟨v, .ty T, .type t, .type T, isTy t T, rfl, .ty T, ty_of r1 e.s ht, kit_ty (kt t (tyD_mem ht)), q _ _ _ e (.bl _)⟩
  · exact q.elim
/-- all(xs), any(xs) of a list of True and False -/
def blsD : List D → Option (List Bool)
  | [] => some []
  | .bool k :: r => (blsD r).map (k :: ·)
  | _ => none
theorem blsD_eq : ∀ {ds : List D} {ks : List Bool}, blsD ds = some ks → ds = ks.map PyData.bool
  | [], ks, h => by cases h; rfl
  | .bool k :: r, ks, h => by
    unfold blsD at h
    cases e : blsD r with
    | none => rw [e] at h; cases h
    | some ls =>
      rw [e] at h
      cases h
      rw [blsD_eq e]
      rfl
  | .none :: _, _, h => by cases h
  | .int _ :: _, _, h => by cases h
  | .str _ :: _, _, h => by cases h
  | .list _ :: _, _, h => by cases h
  | .tuple _ :: _, _, h => by cases h
  | .dict _ :: _, _, h => by cases h
def bAll : List D → O D
  | [.list ds] => match blsD ds with
    | some ks => .ok (.bool (ks.all id))
    | none => .bad
  | _ => .bad
def bAny : List D → O D
  | [.list ds] => match blsD ds with
    | some ks => .ok (.bool (ks.any id))
    | none => .bad
  | _ => .bad
theorem cf_all : CallF K c b (rAll K) bAll := fun F H xs ds Q s r q => by
  unfold bAll at q
  split at q
  · rename_i ds
    split at q
    · rename_i ks hk
      obtain ⟨x, rfl, rr⟩ := paired1 r
      have r : Rep1 K c F H x (.list ds) := rr
      obtain ⟨a, us, rfl, h1, r1⟩ := r.lst s
      rw [blsD_eq hk] at r1
      exact ⟨a, ks, rfl, by rw [← RepL.of_bls ks r1]; exact SqL.of h1, q _ _ _ (Ext.refl s) (.of (.bl _))⟩
    · exact q.elim
  · exact q.elim
theorem cf_any : CallF K c b (rAny K) bAny := fun F H xs ds Q s r q => by
  unfold bAny at q
  split at q
  · rename_i ds
    split at q
    · rename_i ks hk
      obtain ⟨x, rfl, rr⟩ := paired1 r
      have r : Rep1 K c F H x (.list ds) := rr
      obtain ⟨a, us, rfl, h1, r1⟩ := r.lst s
      rw [blsD_eq hk] at r1
      exact ⟨a, ks, rfl, by rw [← RepL.of_bls ks r1]; exact SqL.of h1, q _ _ _ (Ext.refl s) (.of (.bl _))⟩
    · exact q.elim
  · exact q.elim
/-- ints -/
def intsD : List D → Option (List Int)
  | [] => some []
  | .int k :: r => (intsD r).map (k :: ·)
  | _ => none
theorem intsD_eq : ∀ {ds : List D} {ks : List Int}, intsD ds = some ks → ds = ks.map PyData.int
  | [], ks, h => by cases h; rfl
  | .int k :: r, ks, h => by
    unfold intsD at h
    cases e : intsD r with
    | none => rw [e] at h; cases h
    | some ls =>
      rw [e] at h
      cases h
      rw [intsD_eq e]
      rfl
  | .none :: _, _, h => by cases h
  | .bool _ :: _, _, h => by cases h
  | .str _ :: _, _, h => by cases h
  | .list _ :: _, _, h => by cases h
  | .tuple _ :: _, _, h => by cases h
  | .dict _ :: _, _, h => by cases h
theorem intsD_map (ks : List Int) : intsD (ks.map PyData.int) = some ks := by
  induction ks with
  | nil => rfl
  | cons k r ih => show (intsD (r.map PyData.int)).map (k :: ·) = _; rw [ih]; rfl
theorem blsD_map (ks : List Bool) : blsD (ks.map PyData.bool) = some ks := by
  induction ks with
  | nil => rfl
  | cons k r ih => show (blsD (r.map PyData.bool)).map (k :: ·) = _; rw [ih]; rfl
def bSum : List D → O D
  | [.list ds] => match intsD ds with
    | some ks => .ok (.int ks.sum)
    | none => .bad
  | _ => .bad
theorem cf_sum : CallF K c b (rSum K) bSum := fun F H xs ds Q s r q => by
  unfold bSum at q
  split at q
  · rename_i ds
    split at q
    · rename_i ks hk
      obtain ⟨x, rfl, rr⟩ := paired1 r
      have r : Rep1 K c F H x (.list ds) := rr
      obtain ⟨a, us, rfl, h1, r1⟩ := r.lst s
      rw [intsD_eq hk] at r1
      exact ⟨a, ks, rfl, by rw [← RepL.of_ints ks r1]; exact SqL.of h1, q _ _ _ (Ext.refl s) (.of (.int _))⟩
    · exact q.elim
  · exact q.elim
def maxL (x : Int) (xs : List Int) : Int := xs.foldl max x
def minL (x : Int) (xs : List Int) : Int := xs.foldl min x
theorem maxL_spec : ∀ (xs : List Int) (x : Int), maxL x xs ∈ x :: xs ∧ ∀ y ∈ x :: xs, y ≤ maxL x xs
  | [], x => ⟨List.mem_cons_self, fun y hy => by cases hy with | head => exact Int.le_refl _ | tail _ h => cases h⟩
  | z :: r, x => by
    obtain ⟨h1, h2⟩ := maxL_spec r (max x z)
    have e : maxL x (z :: r) = maxL (max x z) r := rfl
    rw [e]
    have h3 := h2 _ List.mem_cons_self
    refine ⟨?_, fun y hy => ?_⟩
    · rcases List.mem_cons.mp h1 with q | q
      · rw [q]
        by_cases hxz : x ≤ z
        · rw [Int.max_eq_right hxz]; exact List.mem_cons_of_mem _ List.mem_cons_self
        · rw [Int.max_eq_left (by omega)]; exact List.mem_cons_self
      · exact List.mem_cons_of_mem _ (List.mem_cons_of_mem _ q)
    · rcases List.mem_cons.mp hy with rfl | hy
      · exact Int.le_trans (Int.le_max_left _ _) h3
      · rcases List.mem_cons.mp hy with rfl | hy
        · exact Int.le_trans (Int.le_max_right _ _) h3
        · exact h2 y (List.mem_cons_of_mem _ hy)
theorem minL_spec : ∀ (xs : List Int) (x : Int), minL x xs ∈ x :: xs ∧ ∀ y ∈ x :: xs, minL x xs ≤ y
  | [], x => ⟨List.mem_cons_self, fun y hy => by cases hy with | head => exact Int.le_refl _ | tail _ h => cases h⟩
  | z :: r, x => by
    obtain ⟨h1, h2⟩ := minL_spec r (min x z)
    have e : minL x (z :: r) = minL (min x z) r := rfl
    rw [e]
    have h3 := h2 _ List.mem_cons_self
    refine ⟨?_, fun y hy => ?_⟩
    · rcases List.mem_cons.mp h1 with q | q
      · rw [q]
        by_cases hxz : x ≤ z
        · rw [Int.min_eq_left hxz]; exact List.mem_cons_self
        · rw [Int.min_eq_right (by omega)]; exact List.mem_cons_of_mem _ List.mem_cons_self
      · exact List.mem_cons_of_mem _ (List.mem_cons_of_mem _ q)
    · rcases List.mem_cons.mp hy with rfl | hy
      · exact Int.le_trans h3 (Int.min_le_left _ _)
      · rcases List.mem_cons.mp hy with rfl | hy
        · exact Int.le_trans h3 (Int.min_le_right _ _)
        · exact h2 y (List.mem_cons_of_mem _ hy)
def bMax : List D → O D
  | [.list ds] => match intsD ds with
    | some (k :: ks) => .ok (.int (maxL k ks))
    | _ => .bad
  | [.int i, .int j] => .ok (.int (if j > i then j else i))
  | _ => .bad
def bMin : List D → O D
  | [.list ds] => match intsD ds with
    | some (k :: ks) => .ok (.int (minL k ks))
    | _ => .bad
  | [.int i, .int j] => .ok (.int (if j < i then j else i))
  | _ => .bad
def rMaxAll (K : PySem.W.Frag) : List V → Hp → VK → Prop := fun xs H Q => rMax K xs H Q ∨ ∃ i j, xs = [.int i, .int j] ∧ Q (.int (if j > i then j else i)) H
def rMinAll (K : PySem.W.Frag) : List V → Hp → VK → Prop := fun xs H Q => rMin K xs H Q ∨ ∃ i j, xs = [.int i, .int j] ∧ Q (.int (if j < i then j else i)) H
theorem cr_maxAll {X : Cx} (hc : X.calm = true) : CallR X (.builtin "max") (rMaxAll X.K) := (cr_max hc).or (call_max2 hc)
theorem cr_minAll {X : Cx} (hc : X.calm = true) : CallR X (.builtin "min") (rMinAll X.K) := (cr_min hc).or (call_min2 hc)
theorem cf_max : CallF K c b (rMaxAll K) bMax := fun F H xs ds Q s r q => by
  unfold bMax at q
  split at q
  · rename_i ds
    split at q
    · rename_i k ks hk
      obtain ⟨x, rfl, rr⟩ := paired1 r
      have r : Rep1 K c F H x (.list ds) := rr
      obtain ⟨a, us, rfl, h1, r1⟩ := r.lst s
      rw [intsD_eq hk] at r1
      refine .inl ⟨a, k :: ks, rfl, by rw [← RepL.of_ints _ r1]; exact SqL.of h1, Nat.succ_pos _, fun m h2 h3 => ?_⟩
      obtain ⟨h4, h5⟩ := maxL_spec ks k
      have e : m = maxL k ks := Int.le_antisymm (h5 m h2) (h3 _ h4)
      rw [e]
      exact q _ _ _ (Ext.refl s) (.of (.int _))
    · exact q.elim
  · rename_i i j
    obtain ⟨x, y, rfl, r, r'⟩ := paired2 r
    have r : Rep1 K c F H x (.int i) := r
    have r' : Rep1 K c F H y (.int j) := r'
    exact .inr ⟨i, j, by rw [r.int, r'.int], q _ _ _ (Ext.refl s) (.of (.int _))⟩
  · exact q.elim
theorem cf_min : CallF K c b (rMinAll K) bMin := fun F H xs ds Q s r q => by
  unfold bMin at q
  split at q
  · rename_i ds
    split at q
    · rename_i k ks hk
      obtain ⟨x, rfl, rr⟩ := paired1 r
      have r : Rep1 K c F H x (.list ds) := rr
      obtain ⟨a, us, rfl, h1, r1⟩ := r.lst s
      rw [intsD_eq hk] at r1
      refine .inl ⟨a, k :: ks, rfl, by rw [← RepL.of_ints _ r1]; exact SqL.of h1, Nat.succ_pos _, fun m h2 h3 => ?_⟩
      obtain ⟨h4, h5⟩ := minL_spec ks k
      have e : m = minL k ks := Int.le_antisymm (h3 _ h4) (h5 m h2)
      rw [e]
      exact q _ _ _ (Ext.refl s) (.of (.int _))
    · exact q.elim
  · rename_i i j
    obtain ⟨x, y, rfl, r, r'⟩ := paired2 r
    have r : Rep1 K c F H x (.int i) := r
    have r' : Rep1 K c F H y (.int j) := r'
    exact .inr ⟨i, j, by rw [r.int, r'.int], q _ _ _ (Ext.refl s) (.of (.int _))⟩
  · exact q.elim
def bAbs : List D → O D
  | [.int i] => .ok (.int (if i < 0 then -i else i))
  | _ => .bad
theorem cf_abs : CallF K c b (fun xs H Q => ∃ i, xs = [.int i] ∧ Q (.int (if i < 0 then -i else i)) H) bAbs := fun F H xs ds Q s r q => by
  unfold bAbs at q
  split at q
  · rename_i i
    obtain ⟨x, rfl, rr⟩ := paired1 r
    have r : Rep1 K c F H x (.int i) := rr
    exact ⟨i, by rw [r.int], q _ _ _ (Ext.refl s) (.of (.int _))⟩
  · exact q.elim
/-- int(n), int(flag), int(text) of a text that writes one -/
def rIntAll : List V → Hp → VK → Prop := fun xs H Q => ((∃ i, xs = [.int i] ∧ Q (.int i) H) ∨ ∃ k, xs = [.bl k] ∧ Q (.int (if k then 1 else 0)) H) ∨ ∃ a n, xs = [.str a] ∧ PySem.intText? a = some n ∧ a.length ≤ 640 ∧ Q (.int n) H
theorem cr_intAll {X : Cx} : CallR X (.type "int") rIntAll := call_int1.or call_int_str
def bInt : List D → O D
  | [.int i] => .ok (.int i)
  | [.bool k] => .ok (.int (if k then 1 else 0))
  | [.str a] => if a.length ≤ 640 then (match PySem.intText? a with
    | some n => .ok (.int n)
    | none => .bad) else .bad
  | _ => .bad
theorem cf_int : CallF K c b rIntAll bInt := fun F H xs ds Q s r q => by
  unfold bInt at q
  split at q
  · rename_i i
    obtain ⟨x, rfl, rr⟩ := paired1 r
    have r : Rep1 K c F H x (.int i) := rr
    exact .inl (.inl ⟨i, by rw [r.int], q _ _ _ (Ext.refl s) (.of (.int _))⟩)
  · rename_i i
    obtain ⟨x, rfl, rr⟩ := paired1 r
    have r : Rep1 K c F H x (.bool i) := rr
    exact .inl (.inr ⟨i, by rw [r.bl], q _ _ _ (Ext.refl s) (.of (.int _))⟩)
  · rename_i a
    obtain ⟨x, rfl, rr⟩ := paired1 r
    have r : Rep1 K c F H x (.str a) := rr
    split at q
    · rename_i hl
      split at q
      · rename_i n hn
        exact .inr ⟨a, n, by rw [r.str], hn, hl, q _ _ _ (Ext.refl s) (.of (.int _))⟩
      · exact q.elim
    · exact q.elim
  · exact q.elim
/-- str(n) -/
def bStr : List D → O D
  | [.int i] => if i.natAbs.log2 < 1920 then .ok (.str (toString i)) else .bad
  | _ => .bad
theorem cf_str : CallF K c b (fun xs H Q => ∃ i, xs = [.int i] ∧ i.natAbs.log2 < 1920 ∧ Q (.str (toString i)) H) bStr := fun F H xs ds Q s r q => by
  unfold bStr at q
  split at q
  · rename_i i
    obtain ⟨x, rfl, rr⟩ := paired1 r
    have r : Rep1 K c F H x (.int i) := rr
    split at q
    · rename_i hl
      exact ⟨i, by rw [r.int], hl, q _ _ _ (Ext.refl s) (.of (.str _))⟩
    · exact q.elim
  · exact q.elim
/-! ### chains of comparisons -/
def gChain (op op' : D → D → O D) (ga gb gc : Rho → O D) : Rho → O D := fun ρ => (ga ρ).bind fun d => (gb ρ).bind fun e => (noEx (op d e)).bind fun z => match z with
  | .bool k => if k = true then (gc ρ).bind fun f => noEx (op' e f) else .ok (.bool false)
  | _ => .bad
theorem noEx_bind {α β : Type} {P : β → Prop} {E : Nat → Prop} {o : O α} {f : α → O β} (h : OPost P E ((noEx o).bind f)) : OPost (fun a => OPost P E (f a)) (fun _ => False) o := by
  cases o with
  | ok a => exact h
  | ex n => exact h.elim
  | bad => exact h.elim
theorem fe_chain {r r' : R2} {op op' : D → D → O D} {ta tb tc : TE} {ga gb gc : Rho → O D} (ho : OpF K c true r op) (ho' : OpF K c b r' op') (ha : FE K c own false ta ga) (hb : FE K c own false tb gb) (hc : FE K c own false tc gc) :
    FE K c own b (tChain r r' ta tb tc) (gChain op op' ga gb gc) := fun σ H F ρ Q S q => by
  refine ha σ H F ρ _ S (OPost.imp (fun d q v H1 F1 e1 r1 => ?_) (fun _ q => q) (OPost.bind q))
  refine hb σ H1 F1 ρ _ (S.ext e1) (OPost.imp (fun e q w H2 F2 e2 r2 => ?_) (fun _ q H2 s => q H2 (e1.h.trans s)) (OPost.bind q))
  have r2 : Rep1 K c F2 H2 w e := r2
  refine ho F2 H2 v w d e _ e2.s (r1.ext e2) r2 (OPost.imp (fun z q u H3 F3 e3 r3 => ?_) (fun _ q => q) (noEx_bind q))
  split at q
  · rename_i k
    cases (show Rep K c.cls F3 u (.bool k) from r3)
    refine ⟨k, rfl, ?_⟩
    have e123 := (e1.trans e2).trans e3
    split at q
    · rename_i hk
      subst hk
      rw [if_pos rfl]
      refine hc σ H3 F3 ρ _ (S.ext e123) (OPost.imp (fun f q y H4 F4 e4 r4 => ?_) (fun _ q H2 s => q H2 (e123.h.trans s)) (OPost.bind q))
      exact ho' F4 H4 w y e f Q e4.s (r2.ext (e3.trans e4)) r4 (OPost.imp (fun z q u H5 F5 e5 r5 => q u H5 F5 ((e123.trans e4).trans e5) r5) (fun _ q => q) (noEx_post q))
    · rename_i hk
      rw [if_neg hk]
      exact q _ _ _ e123 (.of (.bl _))
  · exact q.elim
end
end Fn

set_option Elab.async false
set_option linter.all false
set_option maxRecDepth 100000
/-! Statements by data. -/
namespace Fn
open PySem PySem.Spec L2

/-- how a statement ends -/
inductive R where
  | nx (ρ : Rho) | rt (d : D) | bk (ρ : Rho) | ct (ρ : Rho) | ex (n : Nat) | bad
def R.seq : R → (Rho → R) → R
  | .nx ρ, f => f ρ
  | r, _ => r
theorem R.seq_nx (ρ : Rho) (f : Rho → R) : (R.nx ρ).seq f = f ρ := rfl
theorem R.seq_rt (d : D) (f : Rho → R) : (R.rt d).seq f = .rt d := rfl
theorem R.seq_bk (ρ : Rho) (f : Rho → R) : (R.bk ρ).seq f = .bk ρ := rfl
theorem R.seq_ct (ρ : Rho) (f : Rho → R) : (R.ct ρ).seq f = .ct ρ := rfl
theorem R.seq_ex (n : Nat) (f : Rho → R) : (R.ex n).seq f = .ex n := rfl
theorem R.seq_bad (f : Rho → R) : R.bad.seq f = .bad := rfl
/-- from an expression's outcome on -/
def O.go {α : Type} : O α → (α → R) → R
  | .ok a, f => f a
  | .ex n, _ => .ex n
  | .bad, _ => .bad
theorem O.go_ok {α : Type} (a : α) (f : α → R) : (O.ok a).go f = f a := rfl
theorem O.go_ex {α : Type} (n : Nat) (f : α → R) : (O.ex n : O α).go f = .ex n := rfl
theorem O.go_bad {α : Type} (f : α → R) : (O.bad : O α).go f = .bad := rfl

section
variable (K : PySem.W.Frag) (c : Ct)
/-- the tables stand, and are not frozen -/
def TF (T : List (Addr × Str)) (H F : Hp) : Prop := LamX.Tabs T H ∧ ∀ p ∈ T, F p.1 = none
/-- what a return gives: data that stand frozen; or (fr) a list of its own, new -/
def RetP (F0 H0 : Hp) (T : List (Addr × Str)) : Bool → VK → D → Prop
  | false, R, d => ∀ v H' F', Ext F0 H0 F' H' → TF T H' F' → Rep K c.cls F' v d → R v H'
  | true, R, d => ∃ ds, d = .list ds ∧ ∀ p xs H' F', Ext F0 H0 F' H' → TF T H' F' → H' p = some (.lst xs) → F' p = none → H0 p = none → RepL K c.cls F' xs ds → R (.ref p) H'
def SPost (ol own' : List Nat) (F : Hp) (D : Ends) : R → Prop
  | .nx ρ => ∀ σ' H' F', Same F F' → Sim K c.cls c.B own' σ' H' F' ρ → D.nx σ' H'
  | .rt d => RetP K c c.B.2.1 c.B.1 c.B.2.2 c.fr D.rt d
  | .bk ρ => ∀ σ' H' F', Same F F' → Sim K c.cls c.B ol σ' H' F' ρ → D.bk σ' H'
  | .ct ρ => ∀ σ' H' F', Same F F' → Sim K c.cls c.B ol σ' H' F' ρ → D.ct σ' H'
  | .ex n => ∀ σ' H', Same c.B.1 H' → c.W (.ref (c.xc n)) none σ' H'
  | .bad => False
def FS (ol own own' : List Nat) (t : TS) (g : Rho → R) : Prop := ∀ D σ H F ρ, Sim K c.cls c.B own σ H F ρ → SPost K c ol own' F D (g ρ) → t D σ H
end
section
variable {K : PySem.W.Frag} {c : Ct} {ol own own' own1 own2 : List Nat} {b : Bool} {F H F' H' : Hp} {σ : L2.St} {ρ : Rho} {D : Ends}
theorem SPost.mono {r : R} (h : SPost K c ol own' F D r) (s : Same F F') : SPost K c ol own' F' D r := by
  cases r with
  | nx ρ => exact fun σ' H' F2 e => h σ' H' F2 (s.trans e)
  | rt d => exact h
  | bk ρ => exact fun σ' H' F2 e => h σ' H' F2 (s.trans e)
  | ct ρ => exact fun σ' H' F2 e => h σ' H' F2 (s.trans e)
  | ex n => exact h
  | bad => exact h
/-- from an expression's outcome on -/
theorem SPost.go {α : Type} {P : α → Prop} {E : Nat → Prop} {f : α → R} : ∀ {o : O α}, SPost K c ol own' F D (o.go f) → (∀ a, SPost K c ol own' F D (f a) → P a) → (∀ n, (∀ σ' H', Same c.B.1 H' → c.W (.ref (c.xc n)) none σ' H') → E n) → OPost P E o
  | .ok a, h, h1, _ => h1 a h
  | .ex n, h, _, h2 => h2 n h
  | .bad, h, _, _ => h
def sameB (xs ys : List Nat) : Bool := xs.all ys.contains && ys.all xs.contains
theorem sameB_iff {xs ys : List Nat} (h : sameB xs ys = true) : ∀ i, i ∈ xs ↔ i ∈ ys := fun i => by
  unfold sameB at h
  rw [Bool.and_eq_true, List.all_eq_true, List.all_eq_true] at h
  exact ⟨fun z => List.contains_iff_mem.mp (h.1 i z), fun z => List.contains_iff_mem.mp (h.2 i z)⟩
def subB (xs ys : List Nat) : Bool := xs.all ys.contains
theorem subB_of {xs ys : List Nat} (h : subB xs ys = true) : ∀ i, i ∈ xs → i ∈ ys := fun i z => by
  unfold subB at h
  rw [List.all_eq_true] at h
  exact List.contains_iff_mem.mp (h i z)
/-! ### blocks -/
def gNext : Rho → R := .nx
def gSeq (g h : Rho → R) : Rho → R := fun ρ => (g ρ).seq h
theorem fs_next : FS K c ol own own tNext gNext := fun D σ H F ρ S q => q σ H F (Same.refl _) S
theorem fs_seq {t u : TS} {g h : Rho → R} (h1 : FS K c ol own own1 t g) (h2 : FS K c ol own1 own2 u h) : FS K c ol own own2 (tSeq t u) (gSeq g h) := fun D σ H F ρ S q => by
  refine h1 { D with nx := u D } σ H F ρ S ?_
  unfold gSeq at q
  cases e : g ρ with
  | nx ρ' =>
    rw [e] at q
    exact fun σ' H' F' s S' => h2 D σ' H' F' ρ' S' (SPost.mono q s)
  | rt d => rw [e] at q; exact q
  | bk ρ' => rw [e] at q; exact q
  | ct ρ' => rw [e] at q; exact q
  | ex n => rw [e] at q; exact q
  | bad => rw [e] at q; exact q
/-- some slots own no more -/
theorem fs_freeze {t : TS} {g : Rho → R} (own1 : List Nat) (h : FS K c ol own1 own' t g) (hs : subB own1 own = true) : FS K c ol own own' t g := fun D σ H F ρ S q => by
  obtain ⟨F', s, S'⟩ := S.shrink (subB_of hs)
  exact h D σ H F' ρ S' (SPost.mono q s)
theorem fs_weak {t : TS} {g : Rho → R} (own1 : List Nat) (h : FS K c ol own own1 t g) (hs : subB own' own1 = true) : FS K c ol own own' t g := fun D σ H F ρ S q => by
  refine h D σ H F ρ S ?_
  cases e : g ρ with
  | nx ρ' =>
    rw [e] at q
    exact fun σ' H' F' s S' => by
      obtain ⟨F2, s2, S2⟩ := S'.shrink (subB_of hs)
      exact q σ' H' F2 (s.trans s2) S2
  | rt d => rw [e] at q; exact q
  | bk ρ' => rw [e] at q; exact q
  | ct ρ' => rw [e] at q; exact q
  | ex n => rw [e] at q; exact q
  | bad => rw [e] at q; exact q
/-! ### if -/
def gIfS (g : Rho → O Bool) (u w : Rho → R) : Rho → R := fun ρ => (g ρ).go fun k => if k = true then u ρ else w ρ
theorem fs_if {t : TT} {u w : TS} {g : Rho → O Bool} {gu gw : Rho → R} (h : FT K c own t g) (hu : FS K c ol own own' u gu) (hw : FS K c ol own own' w gw) : FS K c ol own own' (tIfS t u w) (gIfS g gu gw) := fun D σ H F ρ S q => by
  refine h σ H F ρ _ S (SPost.go q (fun k q H1 F1 e => ?_) fun n q H1 s => q σ H1 (S.b.h.trans s))
  cases k with
  | true =>
    rw [if_pos rfl] at q ⊢
    exact hu D σ H1 F1 ρ (S.ext e) (SPost.mono q e.f)
  | false =>
    rw [if_neg Bool.false_ne_true] at q ⊢
    exact hw D σ H1 F1 ρ (S.ext e) (SPost.mono q e.f)
/-! ### names -/
def gSet (i : Nat) (g : Rho → O PyData) : Rho → R := fun ρ => (g ρ).go fun d => .nx (ρ.set i (some d))
theorem notIn_of {i : Nat} (h : own.contains i = false) : own.filter (fun j => j != i) = own := List.filter_eq_self.mpr fun j hj => by
  have : j ≠ i := fun z => by
    subst z
    rw [List.contains_iff_mem.mpr hj] at h
    cases h
  simpa using this
theorem fs_set {t : TE} {g : Rho → O PyData} {i : Nat} (h : FE K c own true t g) (hi : own.contains i = false) : FS K c ol own own (tAsg t (gName i)) (gSet i g) := fun D σ H F ρ S q => by
  refine h σ H F ρ _ S (SPost.go q (fun d q v H1 F1 e r => ?_) fun n q H1 s => q σ H1 (S.b.h.trans s))
  have S2 := (S.ext e).set i (show Rep K c.cls F1 v d from r)
  rw [notIn_of hi] at S2
  exact q _ _ _ e.f S2
/-- a slot that owned a list gets another value -/
theorem fs_setF {t : TE} {g : Rho → O PyData} {i : Nat} (h : FE K c own true t g) (hs : sameB (own.filter fun j => j != i) own' = true) : FS K c ol own own' (tAsg t (gName i)) (gSet i g) := fun D σ H F ρ S q => by
  refine h σ H F ρ _ S (SPost.go q (fun d q v H1 F1 e r => ?_) fun n q H1 s => q σ H1 (S.b.h.trans s))
  exact q _ _ _ e.f (((S.ext e).set i (show Rep K c.cls F1 v d from r)).perm (sameB_iff hs))
theorem fs_setO {t : TE} {g : Rho → O PyData} {i : Nat} (h : FO K c own t g) (hl : ∀ ρ d, g ρ = .ok d → ∃ ds, d = .list ds) (hs : sameB (i :: own.filter fun j => j != i) own' = true) : FS K c ol own own' (tAsg t (gName i)) (gSet i g) := fun D σ H F ρ S q => by
  refine h σ H F ρ _ S ?_
  unfold gSet at q
  cases hg : g ρ with
  | ok d =>
    rw [hg] at q
    obtain ⟨ds, rfl⟩ := hl ρ d hg
    refine ⟨ds, rfl, fun a xs H1 F1 e h1 h2 h3 r => ?_⟩
    refine q _ _ _ e.f (((S.ext e).setO i h1 r h2 (S.b.h.free h3) fun j x d hj hn hr hx => ?_).perm (sameB_iff hs))
    obtain ⟨a', xs', ds', _, k2, k3, _⟩ := S.ow j d hj hr
    rw [k2] at hx
    cases hx
    intro z
    rw [z, h3] at k3
    cases k3
  | ex n => rw [hg] at q; exact fun H1 s => q σ H1 (S.b.h.trans s)
  | bad => rw [hg] at q; exact q.elim
/-! ### targets -/
def FG (K : PySem.W.Frag) (c : Ct) (own : List Nat) (g : TG) (f : PyData → Rho → O Rho) : Prop := ∀ v d σ H F ρ Q, Sim K c.cls c.B own σ H F ρ → Rep K c.cls F v d → OPost (fun ρ' => ∀ σ', Sim K c.cls c.B own σ' H F ρ' → Q σ' H) (fun _ => False) (f d ρ) → g v σ H Q
def FGs (K : PySem.W.Frag) (c : Ct) (own : List Nat) (g : TGs) (f : List PyData → Rho → O Rho) : Prop := ∀ vs ds σ H F ρ Q, Sim K c.cls c.B own σ H F ρ → RepL K c.cls F vs ds → OPost (fun ρ' => ∀ σ', Sim K c.cls c.B own σ' H F ρ' → Q σ' H) (fun _ => False) (f ds ρ) → g vs σ H Q
def aName (i : Nat) : PyData → Rho → O Rho := fun d ρ => .ok (ρ.set i (some d))
def aTup (f : List PyData → Rho → O Rho) : PyData → Rho → O Rho
  | .tuple ds, ρ => f ds ρ
  | _, _ => .bad
def aNil : List PyData → Rho → O Rho
  | [], ρ => .ok ρ
  | _, _ => .bad
def aCons (f : PyData → Rho → O Rho) (fs : List PyData → Rho → O Rho) : List PyData → Rho → O Rho
  | d :: ds, ρ => (f d ρ).bind fun ρ' => fs ds ρ'
  | [], _ => .bad
theorem fg_name {i : Nat} (hi : own.contains i = false) : FG K c own (gName i) (aName i) := fun v d σ H F ρ Q S r q => by
  have S2 := S.set i r
  rw [notIn_of hi] at S2
  exact q _ S2
theorem fgs_nil : FGs K c own gNil aNil := fun vs ds σ H F ρ Q S r q => by
  unfold aNil at q
  split at q
  · cases r
    exact ⟨rfl, q _ S⟩
  · exact q.elim
theorem fgs_cons {g : TG} {gs : TGs} {f : PyData → Rho → O Rho} {fs : List PyData → Rho → O Rho} (h : FG K c own g f) (hs : FGs K c own gs fs) : FGs K c own (gCons g gs) (aCons f fs) := fun vs ds σ H F ρ Q S r q => by
  unfold aCons at q
  split at q
  · rename_i d ds
    cases r with
    | cons r t =>
      refine ⟨_, _, rfl, h _ _ σ H F ρ _ S r (OPost.imp (fun ρ' q σ' S' => ?_) (fun _ q => q) (OPost.bind q))⟩
      exact hs _ _ σ' H F ρ' Q S' t q
  · exact q.elim
theorem fg_tup {n : Nat} {gs : TGs} {fs : List PyData → Rho → O Rho} (h : FGs K c own gs fs) (hn : ∀ ds ρ, ds.length ≠ n → fs ds ρ = .bad) : FG K c own (L2.gTup K n gs) (aTup fs) := fun v d σ H F ρ Q S r q => by
  unfold aTup at q
  split at q
  · rename_i ds
    cases r with
    | tp h1 r =>
      refine ⟨_, _, rfl, Same.tup S.s h1, ?_, h _ _ σ H F ρ Q S r q⟩
      rw [r.length]
      by_cases e : ds.length = n
      · exact e
      · rw [hn ds ρ e] at q
        exact q.elim
  · exact q.elim
theorem aNil_len : ∀ ds ρ, ds.length ≠ 0 → aNil ds ρ = .bad := fun ds ρ h => by
  cases ds with
  | nil => exact absurd rfl h
  | cons d ds => rfl
theorem aCons_len {n : Nat} {f : PyData → Rho → O Rho} {fs : List PyData → Rho → O Rho} (h : ∀ ds ρ, ds.length ≠ n → fs ds ρ = .bad) (hx : ∀ d ρ k, f d ρ ≠ .ex k) : ∀ ds ρ, ds.length ≠ n + 1 → aCons f fs ds ρ = .bad := fun ds ρ hn => by
  cases ds with
  | nil => rfl
  | cons d ds =>
    have h' := fun ρ' => h ds ρ' (fun z => hn (by rw [List.length_cons, z]))
    show (f d ρ).bind _ = _
    cases e : f d ρ with
    | ok ρ' => exact h' ρ'
    | ex k => exact absurd e (hx d ρ k)
    | bad => rfl
theorem aName_ex {i : Nat} : ∀ d ρ k, aName i d ρ ≠ .ex k := fun d ρ k h => by cases h
theorem aNil_ex : ∀ ds ρ k, aNil ds ρ ≠ .ex k := fun ds ρ k h => by cases ds <;> cases h
theorem aCons_ex {f : PyData → Rho → O Rho} {fs : List PyData → Rho → O Rho} (h : ∀ d ρ k, f d ρ ≠ .ex k) (hs : ∀ ds ρ k, fs ds ρ ≠ .ex k) : ∀ ds ρ k, aCons f fs ds ρ ≠ .ex k := fun ds ρ k e => by
  cases ds with
  | nil => cases e
  | cons d ds =>
    have e : (f d ρ).bind _ = .ex k := e
    cases e2 : f d ρ with
    | ok ρ' => rw [e2] at e; exact hs ds ρ' k e
    | ex n => exact h d ρ n e2
    | bad => rw [e2] at e; cases e
theorem aTup_ex {fs : List PyData → Rho → O Rho} (hs : ∀ ds ρ k, fs ds ρ ≠ .ex k) : ∀ d ρ k, aTup fs d ρ ≠ .ex k := fun d ρ k e => by
  unfold aTup at e
  split at e
  · exact hs _ _ _ e
  · cases e
def gAsg (f : PyData → Rho → O Rho) (g : Rho → O PyData) : Rho → R := fun ρ => (g ρ).go fun d => (f d ρ).go .nx
theorem fs_asg {t : TE} {g : Rho → O PyData} {tg : TG} {f : PyData → Rho → O Rho} (h : FE K c own true t g) (hg : FG K c own tg f) (hx : ∀ d ρ k, f d ρ ≠ .ex k) : FS K c ol own own (tAsg t tg) (gAsg f g) := fun D σ H F ρ S q => by
  refine h σ H F ρ _ S (SPost.go q (fun d q v H1 F1 e r => ?_) fun n q H1 s => q σ H1 (S.b.h.trans s))
  refine hg v d σ H1 F1 ρ _ (S.ext e) r ?_
  cases ho : f d ρ with
  | ok ρ' =>
    rw [ho] at q
    exact fun σ' S' => q σ' H1 F1 e.f S'
  | ex k => exact absurd ho (hx d ρ k)
  | bad => rw [ho] at q; exact q.elim
/-! ### expressions as statements, return -/
def gDrop (g : Rho → O PyData) : Rho → R := fun ρ => (g ρ).go fun _ => .nx ρ
theorem fs_drop {t : TE} {g : Rho → O PyData} (h : FE K c own false t g) : FS K c ol own own (tDrop t) (gDrop g) := fun D σ H F ρ S q => by
  refine h σ H F ρ _ S (SPost.go q (fun d q v H1 F1 e r => ?_) fun n q H1 s => q σ H1 (S.b.h.trans s))
  exact q σ H1 F1 e.f (S.ext e)
def gRet (g : Rho → O PyData) : Rho → R := fun ρ => (g ρ).go .rt
theorem fs_ret {t : TE} {g : Rho → O PyData} (h : FE K c [] true t g) (hf : c.fr = false := by rfl) : FS K c ol own own' (tRet t) (gRet g) := fun D σ H F ρ S q => by
  obtain ⟨F', s, S'⟩ := S.shrink (own' := []) (fun i z => absurd z List.not_mem_nil)
  refine h σ H F' ρ _ S' (SPost.go (SPost.mono q s) (fun d q v H1 F1 e r => ?_) fun n q H1 s => q σ H1 (S.b.h.trans s))
  have q : RetP K c c.B.2.1 c.B.1 c.B.2.2 c.fr D.rt d := q
  rw [hf] at q
  exact q v H1 F1 ((S'.ext e).b) ⟨(S'.ext e).tb, (S'.ext e).ft⟩ r
def gRetN : Rho → R := fun _ => .rt .none
theorem fs_retN (hf : c.fr = false := by rfl) : FS K c ol own own' tRetN gRetN := fun D σ H F ρ S q => by
  have q : RetP K c c.B.2.1 c.B.1 c.B.2.2 c.fr D.rt .none := q
  rw [hf] at q
  exact q .non H F S.b ⟨S.tb, S.ft⟩ .non
/-- a new list is told -/
theorem fs_retO {t : TE} {g : Rho → O PyData} (h : FO K c own t g) (hl : ∀ ρ d, g ρ = .ok d → ∃ ds, d = .list ds) (hf : c.fr = true := by rfl) : FS K c ol own own' (tRet t) (gRet g) := fun D σ H F ρ S q => by
  refine h σ H F ρ _ S ?_
  unfold gRet at q
  cases hg : g ρ with
  | ok d =>
    rw [hg] at q
    obtain ⟨ds, rfl⟩ := hl ρ d hg
    have q : RetP K c c.B.2.1 c.B.1 c.B.2.2 c.fr D.rt (.list ds) := q
    rw [hf] at q
    obtain ⟨es, e0, q2⟩ := q
    cases e0
    exact ⟨ds, rfl, fun a xs H1 F1 e h1 h2 h3 r => q2 a xs H1 F1 (S.ext e).b ⟨(S.ext e).tb, (S.ext e).ft⟩ h1 h2 (S.b.h.free h3) r⟩
  | ex n => rw [hg] at q; exact fun H1 s => q σ H1 (S.b.h.trans s)
  | bad => rw [hg] at q; exact q.elim
/-- a list of its own is told -/
theorem fs_retV {i : Nat} (hi : own.contains i = true) (hf : c.fr = true := by rfl) : FS K c ol own own' (tRet (tVar i)) (gRet (gVar i)) := fun D σ H F ρ S q => by
  unfold gRet at q
  cases hg : gVar i ρ with
  | ok d =>
    rw [hg] at q
    have q : RetP K c c.B.2.1 c.B.1 c.B.2.2 c.fr D.rt d := q
    rw [hf] at q
    obtain ⟨ds, rfl, q2⟩ := q
    have hv : ρ[i]? = some (some (.list ds)) := by
      unfold gVar at hg
      split at hg
      · rename_i e; cases hg; exact e
      · cases hg
    obtain ⟨a, xs, ds', e0, k1, k2, k3, k4, k5⟩ := S.ow i _ (List.contains_iff_mem.mp hi) hv
    cases e0
    exact ⟨_, k1, q2 a xs H F S.b ⟨S.tb, S.ft⟩ k2 k4 k5 k3⟩
  | ex n =>
    unfold gVar at hg
    split at hg <;> cases hg
  | bad => rw [hg] at q; exact q.elim
def gBreak : Rho → R := .bk
def gCont : Rho → R := .ct
theorem fs_break (hs : subB ol own = true) : FS K c ol own own' tBreak gBreak := fun D σ H F ρ S q => by
  obtain ⟨F', s, S'⟩ := S.shrink (subB_of hs)
  exact q σ H F' s S'
theorem fs_cont (hs : subB ol own = true) : FS K c ol own own' tCont gCont := fun D σ H F ρ S q => by
  obtain ⟨F', s, S'⟩ := S.shrink (subB_of hs)
  exact q σ H F' s S'
def gRaise (n : Nat) : Rho → R := fun _ => .ex n
theorem fs_raise {n : Nat} {C : Addr} {W : WX} (hW : c.W = W) (hn : c.xc n = C) : FS K c ol own own' (fun _ σ H => W (.ref C) none σ H) (gRaise n) := fun D σ H F ρ S q => by
  subst hW hn
  exact q σ H S.b.h
/-! ### lists that change -/
def lsAt (i : Nat) (ρ : Rho) : O (List PyData) := match ρ[i]? with
  | some (some (.list ds)) => .ok ds
  | _ => .bad
theorem lsAt_ok {i : Nat} {ds : List PyData} (h : lsAt i ρ = .ok ds) : ρ[i]? = some (some (.list ds)) := by
  unfold lsAt at h
  split at h
  · rename_i e; cases h; exact e
  · cases h
theorem lsAt_ex {i n : Nat} (h : lsAt i ρ = .ex n) : False := by
  unfold lsAt at h
  split at h <;> cases h
def gAppend (i : Nat) (g : Rho → O PyData) : Rho → R := fun ρ => (lsAt i ρ).go fun _ => (g ρ).go fun d => (lsAt i ρ).go fun ds => if ds.length < lim then .nx (ρ.set i (some (.list (ds ++ [d])))) else .bad
theorem SPost.ls {i : Nat} {f : List PyData → R} (h : SPost K c ol own' F D ((lsAt i ρ).go f)) : ∃ ds, ρ[i]? = some (some (.list ds)) ∧ SPost K c ol own' F D (f ds) := by
  cases e : lsAt i ρ with
  | ok ds => rw [e] at h; exact ⟨ds, lsAt_ok e, h⟩
  | ex n => exact (lsAt_ex e).elim
  | bad => rw [e] at h; exact h.elim
theorem fs_append {i : Nat} {t : TE} {g : Rho → O PyData} (h : FE K c own true t g) (hi : own.contains i = true) : FS K c ol own own (tDrop (tBM K "list" rAppend (tVar i) (tCons t tNil))) (gAppend i g) := fun D σ H F ρ S q => by
  have hi' := List.contains_iff_mem.mp hi
  obtain ⟨ds0, e0, q⟩ := SPost.ls q
  obtain ⟨a0, xs0, k1, k2, k3, k4⟩ := S.mut hi' e0
  refine ⟨_, k1, .inl ⟨rfl, xs0, SqL.of k2⟩, ?_⟩
  refine h σ H F ρ _ S (SPost.go q (fun d q v H1 F1 e r => ?_) fun n q H1 s => q σ H1 (S.b.h.trans s))
  obtain ⟨ds, e1, q⟩ := SPost.ls q
  rw [e0] at e1
  cases e1
  obtain ⟨a, xs, m1, m2, m3, m4⟩ := (S.ext e).mut hi' e0
  rw [k1] at m1
  cases m1
  split at q
  · rename_i hl
    refine ⟨a0, xs, v, rfl, rfl, m2, by rw [m3.length]; exact lt_lim hl, ?_⟩
    exact q σ _ F1 e.f (m4 _ _ (m3.append (.cons r .nil)))
  · exact q.elim
def gExtend (i : Nat) (g : Rho → O PyData) : Rho → R := fun ρ => (lsAt i ρ).go fun _ => (g ρ).go fun d => match d with
  | .list es => (lsAt i ρ).go fun ds => if ds.length + es.length ≤ lim then .nx (ρ.set i (some (.list (ds ++ es)))) else .bad
  | _ => .bad
theorem fs_extend {i : Nat} {t : TE} {g : Rho → O PyData} (h : FE K c own false t g) (hi : own.contains i = true) : FS K c ol own own (tDrop (tBM K "list" rExtend (tVar i) (tCons t tNil))) (gExtend i g) := fun D σ H F ρ S q => by
  have hi' := List.contains_iff_mem.mp hi
  obtain ⟨ds0, e0, q⟩ := SPost.ls q
  obtain ⟨a0, xs0, k1, k2, k3, k4⟩ := S.mut hi' e0
  refine ⟨_, k1, .inl ⟨rfl, xs0, SqL.of k2⟩, ?_⟩
  refine h σ H F ρ _ S (SPost.go q (fun d q v H1 F1 e r => ?_) fun n q H1 s => q σ H1 (S.b.h.trans s))
  split at q
  · rename_i es
    have r : Rep1 K c F1 H1 v (.list es) := r
    obtain ⟨ds, e1, q⟩ := SPost.ls q
    rw [e0] at e1
    cases e1
    obtain ⟨a, xs, m1, m2, m3, m4⟩ := (S.ext e).mut hi' e0
    rw [k1] at m1
    cases m1
    split at q
    · rename_i hl
      obtain ⟨a2, ys, rfl, n2, n3⟩ := r.lst e.s
      refine ⟨a0, a2, xs, ys, rfl, rfl, m2, n2, by rw [m3.length, n3.length]; exact le_lim hl, ?_⟩
      exact q σ _ F1 e.f (m4 _ _ (m3.append n3))
    · exact q.elim
  · exact q.elim
def gClear (i : Nat) : Rho → R := fun ρ => (lsAt i ρ).go fun _ => .nx (ρ.set i (some (.list [])))
theorem fs_clear {i : Nat} (hi : own.contains i = true) : FS K c ol own own (tDrop (tBM0 K "list" rClear (tVar i))) (gClear i) := fun D σ H F ρ S q => by
  obtain ⟨ds0, e0, q⟩ := SPost.ls q
  obtain ⟨a0, xs0, k1, k2, k3, k4⟩ := S.mut (List.contains_iff_mem.mp hi) e0
  exact ⟨_, k1, .inl ⟨rfl, xs0, SqL.of k2⟩, a0, xs0, rfl, rfl, k2, q σ _ F (Same.refl _) (k4 _ _ .nil)⟩
/-- x = xs.pop() -/
def gPopSet (j i : Nat) : Rho → R := fun ρ => (lsAt i ρ).go fun ds => match ds[ds.length - 1]? with
  | some d => .nx ((ρ.set i (some (.list ds.dropLast))).set j (some d))
  | none => .bad
theorem RepL.dropLast {xs : List V} {ds : List PyData} (h : RepL K c.cls F xs ds) : RepL K c.cls F xs.dropLast ds.dropLast := by
  rw [List.dropLast_eq_take, List.dropLast_eq_take, h.length]
  exact RepL.take _ h
theorem fs_popSet {i j : Nat} (hi : own.contains i = true) (hj : own.contains j = false) : FS K c ol own own (tAsg (tBM0 K "list" rPop (tVar i)) (gName j)) (gPopSet j i) := fun D σ H F ρ S q => by
  obtain ⟨ds0, e0, q⟩ := SPost.ls q
  obtain ⟨a0, xs0, k1, k2, k3, k4⟩ := S.mut (List.contains_iff_mem.mp hi) e0
  split at q
  · rename_i d hd
    obtain ⟨v, h1, h2⟩ := k3.get hd
    refine ⟨_, k1, .inl ⟨rfl, xs0, SqL.of k2⟩, a0, xs0, v, rfl, rfl, k2, by rw [k3.length]; exact h1, ?_⟩
    have S2 := (k4 _ _ k3.dropLast).set j h2
    rw [notIn_of hj] at S2
    exact q _ _ _ (Same.refl _) S2
  · exact q.elim
/-- xs[k] = e -/
def gSetIx (i : Nat) (gi g : Rho → O PyData) : Rho → R := fun ρ => (g ρ).go fun d => (lsAt i ρ).go fun _ => (gi ρ).go fun k => match k with
  | .int k => (lsAt i ρ).go fun ds => match ixN ds.length k with
    | some j => .nx (ρ.set i (some (.list (ds.set j d))))
    | none => .bad
  | _ => .bad
theorem fs_setIx {i : Nat} {t ti : TE} {g gi : Rho → O PyData} (h : FE K c own true t g) (hk : FE K c own false ti gi) (hi : own.contains i = true) : FS K c ol own own (tAsg t (gSub (tVar i) ti rSetL)) (gSetIx i gi g) := fun D σ H F ρ S q => by
  have hi' := List.contains_iff_mem.mp hi
  refine h σ H F ρ _ S (SPost.go q (fun d q v H1 F1 e r => ?_) fun n q H1 s => q σ H1 (S.b.h.trans s))
  have S1 := S.ext e
  obtain ⟨ds0, e0, q⟩ := SPost.ls q
  obtain ⟨a0, xs0, k1, k2, k3, k4⟩ := S1.mut hi' e0
  refine ⟨_, k1, ?_⟩
  refine hk σ H1 F1 ρ _ S1 (SPost.go q (fun k q w H2 F2 e2 r2 => ?_) fun n q H1 s => q σ H1 (S1.b.h.trans s))
  split at q
  · rename_i k
    have r2 : Rep1 K c F2 H2 w (.int k) := r2
    obtain ⟨ds, e1, q⟩ := SPost.ls q
    rw [e0] at e1
    cases e1
    obtain ⟨a, xs, m1, m2, m3, m4⟩ := (S1.ext e2).mut hi' e0
    rw [k1] at m1
    cases m1
    split at q
    · rename_i j hj
      refine ⟨a0, xs, k, j, rfl, r2.int, m2, by rw [m3.length]; exact hj, ?_⟩
      have r : Rep K c.cls F1 v d := r
      exact q σ _ F2 (e.f.trans e2.f) (m4 _ _ (m3.set j (r.mono e2.f)))
    · exact q.elim
  · exact q.elim
/-- x += e of whole numbers -/
def gAugI (f : Int → Int → Int) (i : Nat) (g : Rho → O PyData) : Rho → R := fun ρ => match ρ[i]? with
  | some (some (.int k)) => (g ρ).go fun d => match d with
    | .int m => .nx (ρ.set i (some (.int (f k m))))
    | _ => .bad
  | _ => .bad
theorem fs_augI {f : Int → Int → Int} {i : Nat} {t : TE} {g : Rho → O PyData} (h : FE K c own false t g) (hi : own.contains i = false) : FS K c ol own own (tAug i t (ipI f)) (gAugI f i g) := fun D σ H F ρ S q => by
  unfold gAugI at q
  split at q
  · rename_i k e0
    obtain ⟨v, h1, h2⟩ := S.fro i _ (fun z => by rw [List.contains_iff_mem.mpr z] at hi; cases hi) e0
    cases h2
    refine ⟨_, h1, ?_⟩
    refine h σ H F ρ _ S (SPost.go q (fun d q w H1 F1 e r => ?_) fun n q H1 s => q σ H1 (S.b.h.trans s))
    split at q
    · rename_i m
      have r : Rep1 K c F1 H1 w (.int m) := r
      refine ⟨k, m, rfl, r.int, ?_⟩
      have S2 := (S.ext e).set i (show Rep K c.cls F1 (V.int (f k m)) (.int (f k m)) from .int _)
      rw [notIn_of hi] at S2
      exact q _ _ _ e.f S2
    · exact q.elim
  · exact q.elim
/-! ### what is walked -/
def ItOk (K : PySem.W.Frag) (c : Ct) (J : It) (F0 : Hp) (ds : List PyData) : Prop := ∀ F H, Same F0 F → Same F H → ∀ i,
  (i < ds.length → J.go i H) ∧ (i = ds.length → J.stop i H) ∧ ∀ x H' d, ds[i]? = some d → J.yld i H x H' → ∃ F', Ext F H F' H' ∧ Rep K c.cls F' x d
def FI (K : PySem.W.Frag) (c : Ct) (own : List Nat) (t : TI) (g : Rho → O (List PyData)) : Prop := ∀ σ H F ρ R, Sim K c.cls c.B own σ H F ρ →
  OPost (fun ds => ∀ J H' F', Ext F H F' H' → ItOk K c J F' ds → R J H') (fun n => ∀ H', Same H H' → c.W (.ref (c.xc n)) none σ H') (g ρ) → t σ H R
def itemsL : PyData → O (List PyData)
  | .list ds => .ok ds
  | _ => .bad
def itemsT : PyData → O (List PyData)
  | .tuple ds => .ok ds
  | _ => .bad
def gItL (g : Rho → O PyData) : Rho → O (List PyData) := fun ρ => (g ρ).bind itemsL
def gItT (g : Rho → O PyData) : Rho → O (List PyData) := fun ρ => (g ρ).bind itemsT
theorem fi_list {t : TE} {g : Rho → O PyData} (h : FE K c own true t g) : FI K c own (iList K t) (gItL g) := fun σ H F ρ R S q => by
  refine h σ H F ρ _ S (OPost.imp (fun d q v H1 F1 e r => ?_) (fun _ q => q) (OPost.bind q))
  unfold itemsL at q
  split at q
  · rename_i ds
    cases (show Rep K c.cls F1 v (.list ds) from r) with
    | @ls a xs _ h1 r1 =>
      refine ⟨a, rfl, ⟨xs, e.s.seq (SqL.of h1)⟩, q _ _ _ e fun F2 H2 s1 s2 i => ?_⟩
      have sq : SqL K H2 a xs := s2.seq (s1.seq (SqL.of h1))
      refine ⟨fun hi => ?_, fun hi => ⟨xs, sq, by rw [r1.length, hi]; exact Nat.le_refl _⟩, fun x H' d hd y => ?_⟩
      · have hi' : i < xs.length := by rw [r1.length]; exact hi
        exact ⟨xs, xs[i], sq, List.getElem?_eq_getElem hi'⟩
      · obtain ⟨rfl, y⟩ := y
        obtain ⟨v, h2, h3⟩ := r1.get hd
        have hx := y xs sq
        rw [h2] at hx
        cases hx
        exact ⟨F2, Ext.refl s2, h3.mono s1⟩
  · exact q.elim
theorem fi_tup {t : TE} {g : Rho → O PyData} (h : FE K c own false t g) : FI K c own (iTup K t) (gItT g) := fun σ H F ρ R S q => by
  refine h σ H F ρ _ S (OPost.imp (fun d q v H1 F1 e r => ?_) (fun _ q => q) (OPost.bind q))
  unfold itemsT at q
  split at q
  · rename_i ds
    have r : Rep1 K c F1 H1 v (.tuple ds) := r
    obtain ⟨_, _, _, _, _, rr⟩ := r.tup e.s
    cases rr with
    | @tp a xs _ h1 r1 =>
      refine ⟨a, rfl, ⟨xs, Same.tup e.s h1⟩, q _ _ _ e fun F2 H2 s1 s2 i => ?_⟩
      have sq : SqT K H2 a xs := Same.tup s2 (Same.tup s1 h1)
      refine ⟨fun hi => ?_, fun hi => ⟨xs, sq, by rw [r1.length, hi]; exact Nat.le_refl _⟩, fun x H' d hd y => ?_⟩
      · have hi' : i < xs.length := by rw [r1.length]; exact hi
        exact ⟨xs, xs[i], sq, List.getElem?_eq_getElem hi'⟩
      · obtain ⟨rfl, y⟩ := y
        obtain ⟨v, h2, h3⟩ := r1.get hd
        have hx := y xs sq
        rw [h2] at hx
        cases hx
        exact ⟨F2, Ext.refl s2, h3.mono s1⟩
  · exact q.elim
def rangeD (lo : Int) (n : Nat) : List PyData := (List.range n).map fun (i : Nat) => PyData.int (lo + i)
theorem rangeD_length (lo : Int) (n : Nat) : (rangeD lo n).length = n := by unfold rangeD; simp
theorem rangeD_get {lo : Int} {n i : Nat} {d : PyData} (h : (rangeD lo n)[i]? = some d) : d = .int (lo + i) := by
  unfold rangeD at h
  rw [List.getElem?_map] at h
  cases e : (List.range n)[i]? with
  | none => rw [e] at h; cases h
  | some j =>
    rw [e] at h
    have hj := List.getElem?_eq_some_iff.mp e
    obtain ⟨h1, h2⟩ := hj
    rw [List.getElem_range] at h2
    subst h2
    have := Option.some.inj h
    exact this.symm
def rng1 : List PyData → O (List PyData)
  | [.int j] => if -(lim : Int) ≤ j ∧ j ≤ lim then .ok (rangeD 0 j.toNat) else .bad
  | _ => .bad
def rng2 : List PyData → O (List PyData)
  | [.int i, .int j] => if -(lim : Int) ≤ i ∧ i ≤ lim ∧ -(lim : Int) ≤ j ∧ j ≤ lim then .ok (rangeD i (j - i).toNat) else .bad
  | _ => .bad
def gRng1 (g : Rho → O (List PyData)) : Rho → O (List PyData) := fun ρ => (g ρ).bind rng1
def gRng2 (g : Rho → O (List PyData)) : Rho → O (List PyData) := fun ρ => (g ρ).bind rng2
theorem it_range (lo : Int) (n : Nat) (F0 : Hp) : ItOk K c (Itr lo n) F0 (rangeD lo n) := fun F2 H2 s1 s2 i => by
  refine ⟨fun hi => by rw [rangeD_length] at hi; exact hi, fun hi => by rw [rangeD_length] at hi; exact Nat.le_of_eq hi.symm, fun x H' d hd y => ?_⟩
  obtain ⟨rfl, rfl⟩ := y
  rw [rangeD_get hd]
  exact ⟨F2, Ext.refl s2, .int _⟩
theorem fi_range1 {t : TA} {g : Rho → O (List PyData)} (h : FA K c own false t g) : FI K c own (iRng1 t) (gRng1 g) := fun σ H F ρ R S q => by
  refine h σ H F ρ _ S (OPost.imp (fun d q v H1 F1 e r => ?_) (fun _ q => q) (OPost.bind q))
  unfold rng1 at q
  split at q
  · rename_i j
    obtain ⟨x, rfl, rr⟩ := paired1 (show Paired (Rep1 K c F1 H1) v [PyData.int j] from r)
    have rr : Rep1 K c F1 H1 x (.int j) := rr
    split at q
    · rename_i hj
      unfold lim at hj
      exact ⟨j, by rw [rr.int], by omega, by omega, q _ _ _ e (it_range 0 j.toNat F1)⟩
    · exact q.elim
  · exact q.elim
theorem fi_range2 {t : TA} {g : Rho → O (List PyData)} (h : FA K c own false t g) : FI K c own (iRng2 t) (gRng2 g) := fun σ H F ρ R S q => by
  refine h σ H F ρ _ S (OPost.imp (fun d q v H1 F1 e r => ?_) (fun _ q => q) (OPost.bind q))
  unfold rng2 at q
  split at q
  · rename_i i j
    obtain ⟨x, y, rfl, rx, ry⟩ := paired2 (show Paired (Rep1 K c F1 H1) v [PyData.int i, PyData.int j] from r)
    have rx : Rep1 K c F1 H1 x (.int i) := rx
    have ry : Rep1 K c F1 H1 y (.int j) := ry
    split at q
    · rename_i hj
      unfold lim at hj
      exact ⟨i, j, by rw [rx.int, ry.int], by omega, q _ _ _ e (it_range i (j - i).toNat F1)⟩
    · exact q.elim
  · exact q.elim
def enumD (ds : List PyData) : List PyData := ds.mapIdx fun i d => .tuple [.int (i : Nat), d]
def zipD (ds es : List PyData) : List PyData := List.zipWith (fun d e => PyData.tuple [d, e]) ds es
def enumI : List PyData → O (List PyData)
  | [.list ds] => .ok (enumD ds)
  | _ => .bad
def zipI : List PyData → O (List PyData)
  | [.list ds, .list es] => .ok (zipD ds es)
  | _ => .bad
def gEnum (g : Rho → O (List PyData)) : Rho → O (List PyData) := fun ρ => (g ρ).bind enumI
def gZip (g : Rho → O (List PyData)) : Rho → O (List PyData) := fun ρ => (g ρ).bind zipI
theorem fi_enum {t : TA} {g : Rho → O (List PyData)} (h : FA K c own true t g) : FI K c own (iEnum K t) (gEnum g) := fun σ H F ρ R S q => by
  refine h σ H F ρ _ S (OPost.imp (fun d q v H1 F1 e r => ?_) (fun _ q => q) (OPost.bind q))
  unfold enumI at q
  split at q
  · rename_i ds
    have r : RepL K c.cls F1 v [.list ds] := r
    cases r with
    | cons ra t0 =>
      cases t0
      cases ra with
      | @ls a xs _ h1 r1 =>
        refine ⟨a, xs, rfl, e.s.seq (SqL.of h1), q _ _ _ e fun F2 H2 s1 s2 i => ?_⟩
        have sq : SqL K H2 a xs := s2.seq (s1.seq (SqL.of h1))
        have le : (enumD ds).length = xs.length := by unfold enumD; rw [List.length_mapIdx, r1.length]
        refine ⟨fun hi => ?_, fun hi => ⟨xs, sq, by rw [← le, hi]; exact Nat.le_refl _⟩, fun x H' d hd y => ?_⟩
        · have hi' : i < xs.length := by rw [← le]; exact hi
          exact ⟨xs, xs[i], sq, List.getElem?_eq_getElem hi'⟩
        · obtain ⟨T, u, rfl, hT, rfl, y⟩ := y
          unfold enumD at hd
          rw [List.getElem?_mapIdx] at hd
          cases hq : ds[i]? with
          | none => rw [hq] at hd; cases hd
          | some d0 =>
            rw [hq] at hd
            cases hd
            obtain ⟨w, h2, h3⟩ := r1.get hq
            have hx := y xs sq
            rw [h2] at hx
            cases hx
            exact ⟨_, Ext.new s2 hT, .tp (SqT.of upd_same) (.cons (.int _) (.cons ((h3.mono s1).mono (same_upd (s2.free hT))) .nil))⟩
  · exact q.elim
theorem fi_zip {t : TA} {g : Rho → O (List PyData)} (h : FA K c own true t g) : FI K c own (iZip K t) (gZip g) := fun σ H F ρ R S q => by
  refine h σ H F ρ _ S (OPost.imp (fun d q v H1 F1 e r => ?_) (fun _ q => q) (OPost.bind q))
  unfold zipI at q
  split at q
  · rename_i ds es
    have r : RepL K c.cls F1 v [.list ds, .list es] := r
    cases r with
    | cons ra t0 =>
      cases t0 with
      | cons rb t1 =>
        cases t1
        cases ra with
        | @ls a xs _ h1 r1 =>
          cases rb with
          | @ls a' ys _ h1' r1' =>
            refine ⟨a, a', xs, ys, rfl, e.s.seq (SqL.of h1), e.s.seq (SqL.of h1'), q _ _ _ e fun F2 H2 s1 s2 i => ?_⟩
            have sq : SqL K H2 a xs := s2.seq (s1.seq (SqL.of h1))
            have sq' : SqL K H2 a' ys := s2.seq (s1.seq (SqL.of h1'))
            have le : (zipD ds es).length = min xs.length ys.length := by unfold zipD; rw [List.length_zipWith, r1.length, r1'.length]
            refine ⟨fun hi => ?_, fun hi => ⟨xs, ys, sq, sq', ?_⟩, fun x H' d hd y => ?_⟩
            · rw [le] at hi
              have hx : i < xs.length := Nat.lt_of_lt_of_le hi (Nat.min_le_left _ _)
              have hy : i < ys.length := Nat.lt_of_lt_of_le hi (Nat.min_le_right _ _)
              exact ⟨xs, ys, xs[i], ys[i], sq, sq', List.getElem?_eq_getElem hx, List.getElem?_eq_getElem hy⟩
            · rw [le] at hi
              by_cases z : xs.length ≤ ys.length
              · rw [Nat.min_eq_left z] at hi; exact .inl (Nat.le_of_eq hi.symm)
              · rw [Nat.min_eq_right (by omega)] at hi; exact .inr (Nat.le_of_eq hi.symm)
            · obtain ⟨T, u, u', rfl, hT, rfl, y1, y2⟩ := y
              unfold zipD at hd
              rw [List.getElem?_zipWith] at hd
              cases hq : ds[i]? with
              | none => rw [hq] at hd; cases hd
              | some d0 =>
                cases hq' : es[i]? with
                | none => rw [hq, hq'] at hd; cases hd
                | some e0 =>
                  rw [hq, hq'] at hd
                  cases hd
                  obtain ⟨w, h2, h3⟩ := r1.get hq
                  obtain ⟨w', h2', h3'⟩ := r1'.get hq'
                  have hx := y1 xs sq
                  rw [h2] at hx
                  cases hx
                  have hx' := y2 ys sq'
                  rw [h2'] at hx'
                  cases hx'
                  exact ⟨_, Ext.new s2 hT, .tp (SqT.of upd_same) (.cons ((h3.mono s1).mono (same_upd (s2.free hT))) (.cons ((h3'.mono s1).mono (same_upd (s2.free hT))) .nil))⟩
  · exact q.elim
def strItems (z : Str) : List PyData := z.cps.toList.map fun x => .str ⟨#[x]⟩
def itemsS : PyData → O (List PyData)
  | .str z => .ok (strItems z)
  | _ => .bad
def gItS (g : Rho → O PyData) : Rho → O (List PyData) := fun ρ => (g ρ).bind itemsS
theorem fi_str {t : TE} {g : Rho → O PyData} (h : FE K c own false t g) : FI K c own (iStr t) (gItS g) := fun σ H F ρ R S q => by
  refine h σ H F ρ _ S (OPost.imp (fun d q v H1 F1 e r => ?_) (fun _ q => q) (OPost.bind q))
  unfold itemsS at q
  split at q
  · rename_i z
    have r : Rep1 K c F1 H1 v (.str z) := r
    refine ⟨z, r.str, q _ _ _ e fun F2 H2 s1 s2 i => ?_⟩
    have le : (strItems z).length = z.cps.size := by unfold strItems; simp
    refine ⟨fun hi => by rw [le] at hi; exact hi, fun hi => by rw [le] at hi; exact Nat.le_of_eq hi.symm, fun x H' d hd y => ?_⟩
    obtain ⟨rfl, k, hk, rfl⟩ := y
    unfold strItems at hd
    rw [List.getElem?_map, Array.getElem?_toList, hk] at hd
    cases hd
    exact ⟨F2, Ext.refl s2, .str _⟩
  · exact q.elim
/-- a list, a tuple, a text -/
def iAny (K : PySem.W.Frag) (t : TE) : TI := fun σ H R => iList K t σ H R ∨ iTup K t σ H R ∨ iStr t σ H R
theorem PI.or {X : Cx} {tg e : Expr} {w1 w2 : TI} (h1 : PI X tg e w1) (h2 : PI X tg e w2) : PI X tg e (fun σ H R => w1 σ H R ∨ w2 σ H R) := ⟨fun pins s σ H R I h => h.elim (h1.run pins s σ H R I) (h2.run pins s σ H R I)⟩
theorem pi_any {X : Cx} {tg e : Expr} {t : TE} (h : PE X e t) : PI X tg e (iAny X.K t) := PI.or (pi_list h) (PI.or (pi_tup h) (pi_str h))
def itemsA : PyData → O (List PyData)
  | .list ds => .ok ds
  | .tuple ds => .ok ds
  | .str z => .ok (strItems z)
  | _ => .bad
def gItA (g : Rho → O PyData) : Rho → O (List PyData) := fun ρ => (g ρ).bind itemsA
theorem fi_any {t : TE} {g : Rho → O PyData} (h : FE K c own true t g) : FI K c own (iAny K t) (gItA g) := fun σ H F ρ R S q => by
  unfold gItA at q
  cases hg : g ρ with
  | ok d =>
    rw [hg, O.bind_ok] at q
    cases d with
    | list ds =>
      refine .inl (fi_list h σ H F ρ R S ?_)
      unfold gItL
      rw [hg]
      exact q
    | tuple ds =>
      refine .inr (.inl (fi_tup h.weak σ H F ρ R S ?_))
      unfold gItT
      rw [hg]
      exact q
    | str z =>
      refine .inr (.inr (fi_str h.weak σ H F ρ R S ?_))
      unfold gItS
      rw [hg]
      exact q
    | none => exact q.elim
    | bool _ => exact q.elim
    | int _ => exact q.elim
    | dict _ => exact q.elim
  | ex n =>
    refine .inl (fi_list h σ H F ρ R S ?_)
    unfold gItL
    rw [hg] at q ⊢
    exact q
  | bad => rw [hg] at q; exact q.elim
/-! ### for -/
def forL (f : PyData → Rho → O Rho) (body : Rho → R) : List PyData → Rho → R
  | [], ρ => .nx ρ
  | d :: ds, ρ => (f d ρ).go fun ρ1 => match body ρ1 with
    | .nx ρ2 => forL f body ds ρ2
    | .ct ρ2 => forL f body ds ρ2
    | .bk ρ2 => .nx ρ2
    | .rt e => .rt e
    | .ex n => .ex n
    | .bad => .bad
def gFor (f : PyData → Rho → O Rho) (gi : Rho → O (List PyData)) (body : Rho → R) : Rho → R := fun ρ => (gi ρ).go fun ds => forL f body ds ρ
theorem fs_for {wi : TI} {tg : TG} {tb : TS} {gi : Rho → O (List PyData)} {f : PyData → Rho → O Rho} {body : Rho → R} (hi : FI K c own wi gi) (hg : FG K c own tg f) (hx : ∀ d ρ k, f d ρ ≠ .ex k) (hb : FS K c own own own tb body) :
    FS K c ol own own (tFor wi tg tb) (gFor f gi body) := fun D σ H F ρ S q => by
  refine hi σ H F ρ _ S (SPost.go q (fun ds q J H1 F1 e it => ?_) fun n q H1 s => q σ H1 (S.b.h.trans s))
  refine ⟨fun i m σ2 H2 => m = ds.length - i ∧ i ≤ ds.length ∧ ∃ F2 ρ2, Same F1 F2 ∧ Sim K c.cls c.B own σ2 H2 F2 ρ2 ∧ SPost K c ol own F2 D (forL f body (ds.drop i) ρ2),
    ⟨ds.length, by omega, Nat.zero_le _, F1, ρ, Same.refl _, S.ext e, SPost.mono q e.f⟩, ?_⟩
  rintro i m σ2 H2 ⟨rfl, hle, F2, ρ2, s12, S2, q2⟩
  obtain ⟨i1, i2, i3⟩ := it F2 H2 s12 S2.s i
  by_cases hlt : i < ds.length
  · refine .inr ⟨i1 hlt, fun σ3 H3 => ∃ F3 ρ3, Same F1 F3 ∧ Sim K c.cls c.B own σ3 H3 F3 ρ3 ∧ SPost K c ol own F3 D (forL f body (ds.drop (i + 1)) ρ3), fun σ3 H3 z => ⟨ds.length - (i + 1), by omega, rfl, hlt, z⟩, fun x H3 y => ?_⟩
    obtain ⟨F3, e3, r3⟩ := i3 x H3 ds[i] (List.getElem?_eq_getElem hlt) y
    rw [List.drop_eq_getElem_cons hlt] at q2
    unfold forL at q2
    refine hg x ds[i] σ2 H3 F3 ρ2 _ (S2.ext e3) r3 ?_
    cases ho : f ds[i] ρ2 with
    | ok ρ3 =>
      rw [ho, O.go_ok] at q2
      intro σ4 S4
      refine hb _ σ4 H3 F3 ρ3 S4 ?_
      cases hbo : body ρ3 with
      | nx ρ5 =>
        rw [hbo] at q2
        exact fun σ5 H5 F5 s5 S5 => ⟨F5, ρ5, s12.trans (e3.f.trans s5), S5, SPost.mono q2 (e3.f.trans s5)⟩
      | ct ρ5 =>
        rw [hbo] at q2
        exact fun σ5 H5 F5 s5 S5 => ⟨F5, ρ5, s12.trans (e3.f.trans s5), S5, SPost.mono q2 (e3.f.trans s5)⟩
      | bk ρ5 =>
        rw [hbo] at q2
        exact fun σ5 H5 F5 s5 S5 => q2 σ5 H5 F5 (e3.f.trans s5) S5
      | rt d => rw [hbo] at q2; exact q2
      | ex n => rw [hbo] at q2; exact q2
      | bad => rw [hbo] at q2; exact q2
    | ex k => exact absurd ho (hx _ _ k)
    | bad => rw [ho] at q2; exact q2.elim
  · have : i = ds.length := by omega
    subst this
    refine .inl ⟨i2 rfl, ?_⟩
    rw [List.drop_length] at q2
    exact q2 σ2 H2 F2 (Same.refl _) S2
/-! ### while -/
def whileN (t : Rho → O Bool) (body : Rho → R) : Nat → Rho → R
  | 0, _ => .bad
  | n + 1, ρ => (t ρ).go fun k => if k = true then (match body ρ with
    | .nx ρ2 => whileN t body n ρ2
    | .ct ρ2 => whileN t body n ρ2
    | .bk ρ2 => .nx ρ2
    | .rt e => .rt e
    | .ex n => .ex n
    | .bad => .bad) else .nx ρ
def gWhile (n : Nat) (t : Rho → O Bool) (body : Rho → R) : Rho → R := fun ρ => whileN t body n ρ
theorem fs_while {n : Nat} {tt : TT} {tb : TS} {t : Rho → O Bool} {body : Rho → R} (ht : FT K c own tt t) (hb : FS K c own own own tb body) : FS K c ol own own (tWhile tt tb) (gWhile n t body) := fun D σ H F ρ S q => by
  refine ⟨fun m σ2 H2 => ∃ F2 ρ2, Sim K c.cls c.B own σ2 H2 F2 ρ2 ∧ SPost K c ol own F2 D (whileN t body m ρ2), ⟨n, F, ρ, S, q⟩, ?_⟩
  rintro m σ2 H2 ⟨F2, ρ2, S2, q2⟩
  cases m with
  | zero => exact q2.elim
  | succ m =>
    unfold whileN at q2
    refine ht σ2 H2 F2 ρ2 _ S2 (SPost.go q2 (fun k q2 H3 F3 e => ?_) fun n q H1 s => q σ2 H1 (S2.b.h.trans s))
    cases k with
    | true =>
      rw [if_pos rfl] at q2 ⊢
      refine ⟨fun σ4 H4 => ∃ F4 ρ4, Sim K c.cls c.B own σ4 H4 F4 ρ4 ∧ SPost K c ol own F4 D (whileN t body m ρ4), fun σ4 H4 z => ⟨m, Nat.lt_succ_self _, z⟩, ?_⟩
      refine hb _ σ2 H3 F3 ρ2 (S2.ext e) ?_
      cases hbo : body ρ2 with
      | nx ρ5 =>
        rw [hbo] at q2
        exact fun σ5 H5 F5 s5 S5 => ⟨F5, ρ5, S5, SPost.mono q2 (e.f.trans s5)⟩
      | ct ρ5 =>
        rw [hbo] at q2
        exact fun σ5 H5 F5 s5 S5 => ⟨F5, ρ5, S5, SPost.mono q2 (e.f.trans s5)⟩
      | bk ρ5 =>
        rw [hbo] at q2
        exact fun σ5 H5 F5 s5 S5 => q2 σ5 H5 F5 (e.f.trans s5) S5
      | rt d => rw [hbo] at q2; exact q2
      | ex n => rw [hbo] at q2; exact q2
      | bad => rw [hbo] at q2; exact q2
    | false =>
      rw [if_neg Bool.false_ne_true] at q2 ⊢
      exact q2 σ2 H3 F3 e.f (S2.ext e)
end
end Fn

set_option Elab.async false
set_option linter.all false
set_option maxRecDepth 100000
/-! Comprehensions, calls of own defs, bodies of defs. -/
namespace Fn
open PySem PySem.Spec L2

section
variable {K : PySem.W.Frag} {c : Ct} {ol own own' : List Nat} {b : Bool} {F H F' H' : Hp} {σ : L2.St} {ρ : Rho}
/-! ### comprehensions -/
def wipeR (ρ : Rho) : List Nat → Rho
  | [] => ρ
  | v :: vs => (wipeR ρ vs).set v none
theorem Sim.wipe (S : Sim K c.cls c.B own σ H F ρ) : ∀ vs : List Nat, Sim K c.cls c.B own (L2.wipe σ vs) H F (wipeR ρ vs)
  | [] => S
  | v :: vs => (Sim.wipe S vs).forget v none
theorem wipe_set {u : Option V} : ∀ {vs : List Nat} {i : Nat} (σ : L2.St), i ∈ vs → L2.wipe (σ.set i u) vs = L2.wipe σ vs
  | [], _, _, h => absurd h List.not_mem_nil
  | v :: vs, i, σ, h => by
    unfold L2.wipe
    by_cases e : i = v
    · subst e
      by_cases m : i ∈ vs
      · rw [wipe_set σ m]
      · have q : ∀ (ws : List Nat) (τ : L2.St), i ∉ ws → L2.wipe (τ.set i u) ws = (L2.wipe τ ws).set i u := fun ws => by
          induction ws with
          | nil => intro τ _; rfl
          | cons x xs ih =>
            intro τ hx
            unfold L2.wipe
            rw [ih τ (fun z => hx (List.mem_cons_of_mem _ z))]
            exact List.set_comm _ _ (fun z => hx (by rw [z]; exact List.mem_cons_self))
        rw [q vs σ m, List.set_set]
    · rcases List.mem_cons.mp h with z | z
      · exact absurd z e
      · rw [wipe_set σ z]
theorem wipe_wipe (σ : L2.St) (vs : List Nat) : L2.wipe (L2.wipe σ vs) vs = L2.wipe σ vs := by
  have key : ∀ (ws : List Nat) (τ : L2.St), (∀ w ∈ ws, w ∈ vs) → L2.wipe (L2.wipe τ ws) vs = L2.wipe τ vs := fun ws => by
    induction ws with
    | nil => intro τ _; rfl
    | cons x xs ih =>
      intro τ hx
      have e : L2.wipe τ (x :: xs) = (L2.wipe τ xs).set x none := rfl
      rw [e, wipe_set _ (hx x List.mem_cons_self), ih τ fun w hw => hx w (List.mem_cons_of_mem _ hw)]
  exact key vs σ fun w hw => hw
def FC (K : PySem.W.Frag) (c : Ct) (own vs : List Nat) (g : TG) (f : PyData → Rho → O Rho) : Prop := ∀ v d σ H F ρ Q, Sim K c.cls c.B own σ H F ρ → Rep K c.cls F v d → OPost (fun ρ' => ∀ σ', L2.wipe σ' vs = L2.wipe σ vs → Sim K c.cls c.B own σ' H F ρ' → Q σ' H) (fun _ => False) (f d ρ) → g v σ H Q
def FCs (K : PySem.W.Frag) (c : Ct) (own vs : List Nat) (g : TGs) (f : List PyData → Rho → O Rho) : Prop := ∀ us ds σ H F ρ Q, Sim K c.cls c.B own σ H F ρ → RepL K c.cls F us ds → OPost (fun ρ' => ∀ σ', L2.wipe σ' vs = L2.wipe σ vs → Sim K c.cls c.B own σ' H F ρ' → Q σ' H) (fun _ => False) (f ds ρ) → g us σ H Q
theorem fc_name {i : Nat} {vs : List Nat} (hi : own.contains i = false) (hv : vs.contains i = true) : FC K c own vs (gName i) (aName i) := fun v d σ H F ρ Q S r q => by
  have S2 := S.set i r
  rw [notIn_of hi] at S2
  exact q _ (wipe_set σ (List.contains_iff_mem.mp hv)) S2
theorem fcs_nil {vs : List Nat} : FCs K c own vs gNil aNil := fun us ds σ H F ρ Q S r q => by
  unfold aNil at q
  split at q
  · cases r
    exact ⟨rfl, q _ rfl S⟩
  · exact q.elim
theorem fcs_cons {vs : List Nat} {g : TG} {gs : TGs} {f : PyData → Rho → O Rho} {fs : List PyData → Rho → O Rho} (h : FC K c own vs g f) (hs : FCs K c own vs gs fs) : FCs K c own vs (gCons g gs) (aCons f fs) := fun us ds σ H F ρ Q S r q => by
  unfold aCons at q
  split at q
  · rename_i d ds
    cases r with
    | cons r t =>
      refine ⟨_, _, rfl, h _ _ σ H F ρ _ S r (OPost.imp (fun ρ' q σ' w S' => ?_) (fun _ q => q) (OPost.bind q))⟩
      exact hs _ _ σ' H F ρ' Q S' t (OPost.imp (fun ρ' q σ2 w2 S2 => q σ2 (w2.trans w) S2) (fun _ q => q) q)
  · exact q.elim
theorem fc_tup {vs : List Nat} {n : Nat} {gs : TGs} {fs : List PyData → Rho → O Rho} (h : FCs K c own vs gs fs) (hn : ∀ ds ρ, ds.length ≠ n → fs ds ρ = .bad) : FC K c own vs (L2.gTup K n gs) (aTup fs) := fun v d σ H F ρ Q S r q => by
  unfold aTup at q
  split at q
  · rename_i ds
    cases r with
    | tp h1 r =>
      refine ⟨_, _, rfl, Same.tup S.s h1, ?_, h _ _ σ H F ρ Q S r q⟩
      rw [r.length]
      by_cases e : ds.length = n
      · exact e
      · rw [hn ds ρ e] at q
        exact q.elim
  · exact q.elim
abbrev Ct.noW (c : Ct) : Ct := { c with W := fun _ _ _ _ => False }
def compL (f : PyData → Rho → O Rho) (t : Rho → O Bool) (e : Rho → O PyData) (ρ : Rho) : List PyData → O (List PyData)
  | [] => .ok []
  | d :: ds => (f d ρ).bind fun ρ1 => (noEx (t ρ1)).bind fun k => if k = true then (noEx (e ρ1)).bind fun y => (compL f t e ρ ds).bind fun ys => .ok (y :: ys) else compL f t e ρ ds
def gYes : Rho → O Bool := fun _ => .ok true
theorem ft_yes : FT K c own tYes gYes := fun σ H F ρ Q S q => q H F (Ext.refl S.s)
def gComp (vs : List Nat) (f : PyData → Rho → O Rho) (t : Rho → O Bool) (e : Rho → O PyData) (gi : Rho → O (List PyData)) : Rho → O PyData := fun ρ => (gi ρ).bind fun ds => if ds.length ≤ lim then (compL f t e (wipeR ρ vs) ds).bind fun ys => .ok (.list ys) else .bad
theorem Ext.updNew {p : Addr} {o : HO} (e : Ext F H F' H') (h : H p = none) (h' : F' p = none) : Ext F H F' (upd H' p o) :=
  ⟨e.f, fun b u q => by rw [upd_ne (ne_of_none q h)]; exact e.h b u q, fun b u q => by rw [upd_ne (ne_of_none q h')]; exact e.s b u q, e.n⟩
theorem O.bind_okI {α β : Type} {o : O α} {f : α → O β} {z : β} (h : o.bind f = .ok z) : ∃ a, o = .ok a ∧ f a = .ok z := by
  cases o with
  | ok a => exact ⟨a, rfl, h⟩
  | ex n => cases h
  | bad => cases h
theorem noEx_okI {α : Type} {o : O α} {z : α} (h : noEx o = .ok z) : o = .ok z := by
  cases o with
  | ok a => exact h
  | ex n => cases h
  | bad => cases h
theorem compL_ex {f : PyData → Rho → O Rho} {t : Rho → O Bool} {e : Rho → O PyData} (hx : ∀ d ρ k, f d ρ ≠ .ex k) : ∀ ds n, compL f t e ρ ds ≠ .ex n
  | [], n, h => by cases h
  | d :: ds, n, h => by
    unfold compL at h
    cases e1 : f d ρ with
    | ex k => exact hx d ρ k e1
    | bad => rw [e1] at h; cases h
    | ok ρ1 =>
      rw [e1, O.bind_ok] at h
      cases e2 : t ρ1 with
      | ex k => rw [e2] at h; cases h
      | bad => rw [e2] at h; cases h
      | ok k =>
        rw [e2] at h
        have h : (if k = true then (noEx (e ρ1)).bind fun y => (compL f t e ρ ds).bind fun ys => O.ok (y :: ys) else compL f t e ρ ds) = O.ex n := h
        cases k with
        | false =>
          rw [if_neg Bool.false_ne_true] at h
          exact compL_ex hx ds n h
        | true =>
          rw [if_pos rfl] at h
          cases e3 : e ρ1 with
          | ex k => rw [e3] at h; cases h
          | bad => rw [e3] at h; cases h
          | ok y =>
            rw [e3] at h
            have h : (compL f t e ρ ds).bind (fun ys => O.ok (y :: ys)) = O.ex n := h
            cases e4 : compL f t e ρ ds with
            | ex k => exact compL_ex hx ds k e4
            | bad => rw [e4] at h; cases h
            | ok ys => rw [e4] at h; cases h
theorem fo_comp {vs : List Nat} {wi : TI} {g : TG} {tt : TT} {te : TE} {gi : Rho → O (List PyData)} {f : PyData → Rho → O Rho} {t : Rho → O Bool} {e : Rho → O PyData} (hi : FI K c own wi gi) (hg : FC K c.noW own vs g f)
    (hx : ∀ d ρ k, f d ρ ≠ .ex k) (ht : FT K c.noW own tt t) (he : FE K c.noW own true te e) : FO K c own (tLc wi g tt te vs) (gComp vs f t e gi) := fun σ H F ρ Q S q => by
  refine hi σ H F ρ _ S (OPost.imp (fun ds q J H1 F1 e1 it => ?_) (fun _ q => q) (OPost.bind q))
  split at q
  · rename_i hlim
    intro A hA
    have S1 := S.ext e1
    cases hz : compL f t e (wipeR ρ vs) ds with
    | ex n => exact absurd hz (compL_ex hx ds n)
    | bad => rw [hz] at q; exact q.elim
    | ok zs =>
      rw [hz, O.bind_ok] at q
      obtain ⟨_, ez, q⟩ := q
      cases ez
      refine ⟨fun i m H2 => m = ds.length - i ∧ i ≤ ds.length ∧ ∃ F2 acc as ys, Ext F1 H1 F2 H2 ∧ H2 A = some (.lst acc) ∧ F2 A = none ∧ RepL K c.cls F2 acc as ∧ as.length ≤ i ∧ compL f t e (wipeR ρ vs) (ds.drop i) = .ok ys ∧ zs = as ++ ys,
        ⟨ds.length, by omega, Nat.zero_le _, F1, [], [], zs, Ext.newO e1.s hA, upd_same, e1.s.free hA, .nil, Nat.zero_le _, hz, rfl⟩, ?_⟩
      rintro i m H2 ⟨rfl, hle, F2, acc, as, ys, e2, hD, hF, hr, hl, hc, rfl⟩
      obtain ⟨i1, i2, i3⟩ := it F2 H2 e2.f e2.s i
      by_cases hlt : i < ds.length
      · refine .inr ⟨i1 hlt, fun H3 => ∃ F3 acc as' ys', Ext F1 H1 F3 H3 ∧ H3 A = some (.lst acc) ∧ F3 A = none ∧ RepL K c.cls F3 acc as' ∧ as'.length ≤ i + 1 ∧ compL f t e (wipeR ρ vs) (ds.drop (i + 1)) = .ok ys' ∧ as ++ ys = as' ++ ys',
          fun H3 z => ⟨ds.length - (i + 1), by omega, rfl, hlt, z⟩, fun x H3 y => ?_⟩
        obtain ⟨F3, e3, r3⟩ := i3 x H3 ds[i] (List.getElem?_eq_getElem hlt) y
        rw [List.drop_eq_getElem_cons hlt] at hc
        unfold compL at hc
        obtain ⟨ρ1, ho, hc⟩ := O.bind_okI hc
        obtain ⟨k, hk, hc⟩ := O.bind_okI hc
        have e13 := e2.trans e3
        refine hg x ds[i] (L2.wipe σ vs) H3 F3 (wipeR ρ vs) _ ((S1.ext e13).wipe vs) r3 ?_
        rw [ho]
        intro σ4 w4 S4
        refine ⟨w4.trans (wipe_wipe σ vs), ht σ4 H3 F3 ρ1 _ S4 ?_⟩
        rw [noEx_okI hk]
        intro H4 F4 e4
        have e14 := e13.trans e4
        have nF : ∀ {F5 H5}, Ext F2 H2 F5 H5 → F5 A = none := fun {F5 H5} ee => by
          cases qq : F5 A with
          | none => rfl
          | some o =>
            rcases ee.n A o qq with z | z
            · rw [hF] at z; cases z
            · rw [hD] at z; cases z
        cases k with
        | true =>
          rw [if_pos rfl] at hc ⊢
          obtain ⟨y, hy, hc⟩ := O.bind_okI hc
          obtain ⟨ys', hys, hc⟩ := O.bind_okI hc
          cases hc
          refine he σ4 H4 F4 ρ1 _ (S4.ext e4) ?_
          rw [noEx_okI hy]
          intro u H5 F5 e5 r5
          have e25 := (e3.trans e4).trans e5
          refine ⟨acc, e25.h _ _ hD, by rw [hr.length]; exact lt_lim (by omega), F5, _, as ++ [y], ys', (e2.trans e25).updNew hA (nF e25), upd_same, nF e25, (hr.mono e25.f).append (.cons r5 .nil), by rw [List.length_append, List.length_singleton]; omega, hys, by rw [List.append_assoc]; rfl⟩
        | false =>
          rw [if_neg Bool.false_ne_true] at hc ⊢
          have e24 := e3.trans e4
          exact ⟨F4, acc, as, ys, e2.trans e24, e24.h _ _ hD, nF e24, hr.mono e24.f, by omega, hc, rfl⟩
      · have : i = ds.length := by omega
        subst this
        rw [List.drop_length] at hc
        have hc : O.ok [] = O.ok ys := hc
        cases hc
        refine .inl ⟨i2 rfl, q A acc H2 F2 (e1.trans e2) hD hF (e1.h.free hA) ?_⟩
        rw [List.append_nil]
        exact hr
  · exact q.elim
theorem gComp_list {vs : List Nat} {f : PyData → Rho → O Rho} {t : Rho → O Bool} {e : Rho → O PyData} {gi : Rho → O (List PyData)} : ∀ ρ d, gComp vs f t e gi ρ = .ok d → ∃ ds, d = .list ds := fun ρ d h => by
  unfold gComp at h
  obtain ⟨ds, _, h⟩ := O.bind_okI h
  split at h
  · obtain ⟨ys, _, h⟩ := O.bind_okI h
    cases h
    exact ⟨ys, rfl⟩
  · cases h
theorem fe_comp {vs : List Nat} {wi : TI} {g : TG} {tt : TT} {te : TE} {gi : Rho → O (List PyData)} {f : PyData → Rho → O Rho} {t : Rho → O Bool} {e : Rho → O PyData} (hi : FI K c own wi gi) (hg : FC K c.noW own vs g f)
    (hx : ∀ d ρ k, f d ρ ≠ .ex k) (ht : FT K c.noW own tt t) (he : FE K c.noW own true te e) : FE K c own b (tLc wi g tt te vs) (gComp vs f t e gi) := (fo_comp hi hg hx ht he).fe gComp_list
theorem g2L_list {op : PyData → PyData → O (List PyData)} {ga gb : Rho → O PyData} : ∀ ρ d, g2L op ga gb ρ = .ok d → ∃ ds, d = .list ds := fun ρ d h => by
  unfold g2L at h
  obtain ⟨x, _, h⟩ := O.bind_okI h
  obtain ⟨y, _, h⟩ := O.bind_okI h
  obtain ⟨z, _, h⟩ := O.bind_okI h
  cases h
  exact ⟨z, rfl⟩
theorem gSlL_list {g : Rho → O PyData} {gl gh : Rho → O (Option Int)} : ∀ ρ d, gSlL g gl gh ρ = .ok d → ∃ ds, d = .list ds := fun ρ d h => by
  unfold gSlL at h
  obtain ⟨x, _, h⟩ := O.bind_okI h
  obtain ⟨y, _, h⟩ := O.bind_okI h
  obtain ⟨z, _, h⟩ := O.bind_okI h
  unfold dSlL at h
  split at h
  · cases h; exact ⟨_, rfl⟩
  · cases h
/-! ### own defs -/
def spF (K : PySem.W.Frag) (cls xc : Nat → Addr) (n : Nat) (f : List PyData → O PyData) : Sp := fun vs H Q E => ∃ F ds, Same F H ∧ RepL K cls F vs ds ∧ ds.length = n ∧
  OPost (fun d => ∀ v H' F', Ext F H F' H' → Rep K cls F' v d → Q v H') (fun k => ∀ H', Same H H' → E (.ref (xc k)) none H') (f ds)
def gFn (n : Nat) (f : List PyData → O PyData) (g : Rho → O (List PyData)) : Rho → O PyData := fun ρ => (g ρ).bind fun ds => if ds.length = n then f ds else .bad
theorem fe_call {n : Nat} {f : List PyData → O PyData} {t : TA} {g : Rho → O (List PyData)} {W : WX} (hW : c.W = W) (h : FA K c own true t g) : FE K c own b (tCallS (spF K c.cls c.xc n f) (WE W) t) (gFn n f g) := FE.any fun σ H F ρ Q S q => by
  subst hW
  refine h σ H F ρ _ S (OPost.imp (fun ds q vs H1 F1 e1 r1 => ?_) (fun _ q => q) (OPost.bind q))
  split at q
  · rename_i hn
    exact ⟨F1, ds, e1.s, r1, hn, OPost.imp (fun d q v H2 F2 e2 r2 => q v H2 F2 (e1.trans e2) r2) (fun k q H2 s => q H2 (e1.h.trans s)) q⟩
  · exact q.elim
def flatO : PyData → O PyData := fun d => if flatD d = true then .ok d else .bad
def gFnB (n : Nat) (f : List PyData → O PyData) (g : Rho → O (List PyData)) : Rho → O PyData := fun ρ => (g ρ).bind fun ds => if ds.length = n then (f ds).bind flatO else .bad
theorem Rep.flat {v : V} {d : PyData} {G : Hp} (r : Rep K c.cls F v d) (h : flatD d = true) : Rep K c.cls G v d := by
  cases r with
  | non => exact .non
  | bl k => exact .bl k
  | int i => exact .int i
  | str x => exact .str x
  | ls _ _ => cases h
  | ro _ _ => cases h
  | tp _ _ => cases h
  | ob _ _ => cases h
  | dc _ => cases h
  | ad _ => cases h
theorem paired_full (s : Same F H) : ∀ {vs : List V} {ds : List PyData}, Paired (Rep1 K c F H) vs ds → RepL K c.cls H vs ds
  | _, _, .nil => .nil
  | _, _, .cons r t => .cons (Rep1.full r s) (paired_full s t)
theorem fe_callS {n : Nat} {f : List PyData → O PyData} {t : TA} {g : Rho → O (List PyData)} {W : WX} (hW : c.W = W) (h : FA K c own false t g) : FE K c own b (tCallS (spF K c.cls c.xc n f) (WE W) t) (gFnB n f g) := FE.any fun σ H F ρ Q S q => by
  subst hW
  refine h σ H F ρ _ S (OPost.imp (fun ds q vs H1 F1 e1 r1 => ?_) (fun _ q => q) (OPost.bind q))
  split at q
  · rename_i hn
    refine ⟨H1, ds, Same.refl _, paired_full e1.s r1, hn, OPost.imp (fun d q v H2 F2 e2 r2 => ?_) (fun k q H2 s => q H2 (e1.h.trans s)) (OPost.bind q)⟩
    unfold flatO at q
    split at q
    · rename_i hf
      exact q v H2 F1 (e1.trans ⟨Same.refl _, e2.h, e1.s.trans e2.h, fun _ _ z => .inl z⟩) (r2.flat hf)
    · exact q.elim
  · exact q.elim
def outR : R → O PyData
  | .nx _ => .ok .none
  | .rt d => .ok d
  | .ex n => .ex n
  | .bk _ => .bad
  | .ct _ => .bad
  | .bad => .bad
def rho0 (m : Nat) (ds : List PyData) : Rho := ds.map some ++ List.replicate (m - ds.length) none
def fnG (m : Nat) (g : Rho → R) : List PyData → O PyData := fun ds => outR (g (rho0 m ds))
end
theorem sim_start {K : PySem.W.Frag} {cls : Nat → Addr} {F H : Hp} {N : List Str} {vs : List V} {ds : List PyData} (s : Same F H) (r : RepL K cls F vs ds) : Sim K cls (H, F, []) [] (L2.start N vs) H F (rho0 N.length ds) where
  b := Ext.refl s
  len := by
    unfold L2.start rho0
    rw [List.length_append, List.length_append, List.length_map, List.length_map, List.length_replicate, List.length_replicate, r.length]
  fro := fun i d _ h => by
    unfold rho0 at h
    by_cases hi : i < ds.length
    · rw [List.getElem?_append_left (by rw [List.length_map]; exact hi), List.getElem?_map] at h
      cases q : ds[i]? with
      | none => rw [q] at h; cases h
      | some d' =>
        rw [q] at h
        cases h
        obtain ⟨v, h1, h2⟩ := r.get q
        refine ⟨v, ?_, h2⟩
        unfold L2.start
        rw [List.getElem?_append_left (by rw [List.length_map, r.length]; exact hi), List.getElem?_map, h1]
        rfl
    · rw [List.getElem?_append_right (by rw [List.length_map]; omega)] at h
      rw [List.getElem?_replicate] at h
      split at h <;> cases h
  ow := fun i d hi => absurd hi List.not_mem_nil
  sep := fun i j d e a hi => absurd hi List.not_mem_nil
  tb := fun p hp => absurd hp List.not_mem_nil
  ft := fun p hp => absurd hp List.not_mem_nil
section
variable {P : Program} {w : World} {K : PySem.W.Frag} {mg : Str → Option Value} {base : Heap}
/-- a def by its body -/
theorem fn_ok {x qual : Str} {st : Stmt} {f : Addr} {fd : FuncData} {N ps : List Str} {k : Nat} {cls xc : Nat → Addr} (F : Fun K x qual st f fd) (S : FnScope N ps (defScope st)) (g : Rho → R) (own' : List Nat)
    (h : ∀ (cdv : Value) (A : Around) (outer : List Env) (s : Shared) (H : Hp) (E : XK) (F0 : Hp), Room k (A.deeper (PyProof.Rows.envOfC qual (defScope st) s.heap.objs.size f cdv)) →
      ∃ t, PSs (cxOf (L2.CX P w) P w K mg base N qual (defScope st) f cdv A outer s H E) (defBody st) t ∧ FS K ⟨cls, xc, fun cl d _ H' => E cl d H', (H, F0, []), false⟩ [] [] own' t g) :
    FnOk P w K mg base (L2.CX P w) (k + 1) f fd ps (spF K cls xc ps.length (fnG N.length g)) := by
  refine F.okX S (fun vs H Q E h => ?_) (fun cdv A outer s H vs Q E hr hsp => ?_)
  · obtain ⟨F0, ds, _, r, hn, _⟩ := h
    rw [r.length]; exact hn
  · obtain ⟨F0, ds, sF, r, hn, q⟩ := hsp
    obtain ⟨t, ht, hf⟩ := h cdv A outer s H E F0 hr
    refine ⟨t, ht, hf _ _ H F0 (rho0 N.length ds) (sim_start sF r) ?_⟩
    unfold fnG at q
    cases e : g (rho0 N.length ds) with
    | nx ρ' =>
      rw [e] at q
      exact fun σ' H' F' s' S' => q .non H' F' S'.b .non
    | rt d => rw [e] at q; exact fun v H' F' e _ r => q v H' F' e r
    | ex n => rw [e] at q; exact fun σ' H' s' => q H' s'
    | bk ρ' => rw [e] at q; exact q.elim
    | ct ρ' => rw [e] at q; exact q.elim
    | bad => rw [e] at q; exact q.elim
end
end Fn

set_option Elab.async false
set_option linter.all false
set_option maxRecDepth 100000
/-! What the top has written, by names. -/
namespace Fn
open PySem PySem.Spec L2

/-- a def of the top, by its name -/
def DefAt (K : PySem.W.Frag) (mg : Str → Option Value) (x : Str) (st : Stmt) (ps : List Str) : Prop := ∃ f fd, Fun K x x st f fd ∧ mg x = some (.ref f) ∧ Binds K fd ps []
/-- .. and what it does -/
def OkAt (P : Program) (w : World) (K : PySem.W.Frag) (mg : Str → Option Value) (base : Heap) (cls xc : Nat → Addr) (x : Str) (ps : List Str) (n k : Nat) (g : List PyData → O PyData) : Prop :=
  ∃ f fd, FnOk P w K mg base (L2.CX P w) k f fd ps (spF K cls xc n g) ∧ mg x = some (.ref f) ∧ PySem.W.keepIn K (.ref f) = true ∧ Binds K fd ps []
theorem okAt_of {P : Program} {w : World} {K : PySem.W.Frag} {mg : Str → Option Value} {base : Heap} {cls xc : Nat → Addr} {x : Str} {st : Stmt} {ps N : List Str} {k : Nat} (d : DefAt K mg x st ps) (S : FnScope N ps (defScope st)) (g : Rho → R) (own' : List Nat)
    (h : ∀ (f : Addr) (cdv : Value) (A : Around) (outer : List Env) (s : Shared) (H : Hp) (E : XK) (F0 : Hp), Room k (A.deeper (PyProof.Rows.envOfC x (defScope st) s.heap.objs.size f cdv)) →
      ∃ t, PSs (cxOf (L2.CX P w) P w K mg base N x (defScope st) f cdv A outer s H E) (defBody st) t ∧ FS K ⟨cls, xc, fun cl d _ H' => E cl d H', (H, F0, []), false⟩ [] [] own' t g) :
    OkAt P w K mg base cls xc x ps ps.length (k + 1) (fnG N.length g) := by
  obtain ⟨f, fd, F, m, b⟩ := d
  exact ⟨f, fd, fn_ok F S g own' (h f), m, F.kp, b⟩
section
variable {X : Cx} {cls xc : Nat → Addr} {x : Str} {ps : List Str} {n k j : Nat} {g : List PyData → O PyData} {W : WX} {p pos : Pos} {e : Expr} {es : List Expr} {t : TA}
theorem pe_callO (o : OkAt X.prog X.w X.K X.mg X.base cls xc x ps n k g) (hr : Room j X.A) (hk : k ≤ j) (hg : Gl X x) (tk : Takes X W) (ha : PA X (e :: es) t) (hdb : (x == ("__debug__" : Str)) = false := by decide)
    (he : starEach (e :: es) X.env = (false, eval e X.env) :: starEach es X.env := by rfl) (hpl : (backTo pos (starEach es X.env)).any (·.1) = false := by rfl) :
    PE X (.Call (.Name x p) (e :: es) [] pos) (tCallS (spF X.K cls xc n g) (WE W) t) := by
  obtain ⟨f, fd, F, m, kp, b⟩ := o
  exact pe_callS F (hr.mono hk) hg m kp b (fun σ => passAt tk σ) ha hdb he hpl
end
/-- an error class of the text's own -/
structure ExcAt (K : PySem.W.Frag) (mg : Str → Option Value) (x : Str) (C : Addr) : Prop where
  g : mg x = some (.ref C)
  k : PySem.W.keepIn K (.ref C) = true
  x : PySem.W.excIn K C [.type "ValueError", .type "Exception", .type "BaseException", .type "object"] "ValueError.__new__" = true
  b : PySem.W.subIn K (.ref C) (.type "BaseException") = some true
  t : PySem.W.typeIn K (.ref C) = some (.type "type")
theorem ps_raiseO {X : Cx} {W : WX} {x m : Str} {C : Addr} {j : Nat} {p p2 pos pos' : Pos} (hc : X.calm = true) (tk : Takes X W) (T : ExcAt X.K X.mg x C) (hg : Gl X x) (hdb : (x == ("__debug__" : Str)) = false := by decide) :
    PS X (.Raise (some (.Call (.Name x p) [.Constant (.str m) j p2] [] pos)) none pos') (fun _ σ H => W (.ref C) none σ H) :=
  ps_raise hc tk (pmk_own PySem.F.excBase_ValueError T.x T.g T.k (raises_own T.b T.t) hg hdb)
/-- a whole number of the top -/
def IntAt (mg : Str → Option Value) (x : Str) (i : Int) : Prop := ∃ t, mg x = some (.int i t)
theorem pe_globI {X : Cx} {x : Str} {i : Int} {pos : Pos} (hg : Gl X x) (h : IntAt X.mg x i) (hd : (x == ("__debug__" : Str)) = false := by decide) : PE X (.Name x pos) (tC (.int i)) := by
  obtain ⟨t, h⟩ := h
  exact pe_glob hg h ⟨t, rfl⟩ hd
theorem fe_int {K : PySem.W.Frag} {c : Ct} {own : List Nat} {b : Bool} (i : Int) : FE K c own b (tC (.int i)) (gC (.int i)) := fe_c fun _ => .int i
theorem fe_str {K : PySem.W.Frag} {c : Ct} {own : List Nat} {b : Bool} (i : Str) : FE K c own b (tC (.str i)) (gC (.str i)) := fe_c fun _ => .str i
theorem fe_bool {K : PySem.W.Frag} {c : Ct} {own : List Nat} {b : Bool} (i : Bool) : FE K c own b (tC (.bl i)) (gC (.bool i)) := fe_c fun _ => .bl i
theorem fe_none {K : PySem.W.Frag} {c : Ct} {own : List Nat} {b : Bool} : FE K c own b (tC .non) (gC .none) := fe_c fun _ => .non
/-! built-in names -/
theorem bt_len : bootBuiltins "len" = some (.builtin "len") := by decide +kernel
theorem bt_all : bootBuiltins "all" = some (.builtin "all") := by decide +kernel
theorem bt_any : bootBuiltins "any" = some (.builtin "any") := by decide +kernel
theorem bt_sum : bootBuiltins "sum" = some (.builtin "sum") := by decide +kernel
theorem bt_max : bootBuiltins "max" = some (.builtin "max") := by decide +kernel
theorem bt_min : bootBuiltins "min" = some (.builtin "min") := by decide +kernel
theorem bt_abs : bootBuiltins "abs" = some (.builtin "abs") := by decide +kernel
theorem bt_isinstance : bootBuiltins "isinstance" = some (.builtin "isinstance") := by decide +kernel
theorem bt_int : bootBuiltins "int" = some (.type "int") := by decide +kernel
theorem bt_str : bootBuiltins "str" = some (.type "str") := by decide +kernel
theorem bt_tuple : bootBuiltins "tuple" = some (.type "tuple") := by decide +kernel
theorem bt_list : bootBuiltins "list" = some (.type "list") := by decide +kernel
theorem bt_bool : bootBuiltins "bool" = some (.type "bool") := by decide +kernel
/-! operators in short -/
abbrev gAdd := g2 fun d e => noEx (dAdd d e)
abbrev gSub' := g2 fun d e => noEx (dSub d e)
abbrev gMul := g2 fun d e => noEx (dMul d e)
abbrev gFdiv := g2 fun d e => noEx (dFdiv d e)
abbrev gMod := g2 fun d e => noEx (dMod d e)
abbrev gPow := g2 fun d e => noEx (dPow d e)
abbrev gLt := g2 fun d e => noEx (dLt d e)
abbrev gLe := g2 fun d e => noEx (dLe d e)
abbrev gGt := g2 fun d e => noEx (dGt d e)
abbrev gGe := g2 fun d e => noEx (dGe d e)
abbrev gEq := g2 fun d e => noEx (dEq d e)
abbrev gNe := g2 fun d e => noEx (dNe d e)
abbrev gIn := g2 fun d e => noEx (dIn false d e)
abbrev gNotIn := g2 fun d e => noEx (dIn true d e)
abbrev gIsN := g2 fun d e => noEx (dIsN d e)
abbrev gNotN := g2 fun d e => noEx (dNotN d e)
abbrev gIx := g2 fun d e => noEx (dIx d e)
abbrev gNeg := g1 fun d => noEx (dNeg d)
abbrev gB (f : List PyData → O PyData) := gCall fun ds => noEx (f ds)
end Fn

set_option Elab.async false
set_option linter.all false
set_option maxRecDepth 100000
/-! The class Problem: three lists of its own, made of what is_problem takes. -/
namespace Fn
open PySem PySem.Spec L2

def pf (p1 p2 p3 : Addr) : List (Str × V) := putF "gain" (.ref p3) (putF "rows" (.ref p2) (putF "tops" (.ref p1) []))
theorem pf_eq (p1 p2 p3 : Addr) : pf p1 p2 p3 = ([("tops", V.ref p1), ("rows", V.ref p2), ("gain", V.ref p3)] : List (Str × V)) := by
  have h1 : ¬ (("tops" : Str) = "rows") := by decide +kernel
  have h2 : ¬ (("tops" : Str) = "gain") := by decide +kernel
  have h3 : ¬ (("rows" : Str) = "gain") := by decide +kernel
  unfold pf
  have e1 : putF "tops" (.ref p1) [] = ([("tops", V.ref p1)] : List (Str × V)) := rfl
  rw [e1]
  have e2 : putF "rows" (.ref p2) [(("tops" : Str), V.ref p1)] = ([("tops", V.ref p1), ("rows", V.ref p2)] : List (Str × V)) := by
    show (if ("tops" : Str) = "rows" then [(("rows" : Str), V.ref p2)] else (("tops" : Str), V.ref p1) :: putF "rows" (.ref p2) []) = _
    rw [if_neg h1]
    rfl
  rw [e2]
  show (if ("tops" : Str) = "gain" then (("gain" : Str), V.ref p3) :: [(("rows" : Str), V.ref p2)] else (("tops" : Str), V.ref p1) :: (if ("rows" : Str) = "gain" then [(("gain" : Str), V.ref p3)] else (("rows" : Str), V.ref p2) :: putF "gain" (.ref p3) [])) = _
  rw [if_neg h2, if_neg h3]
  rfl
/-- a problem's data -/
abbrev D.prob (ts rs gs : List PyData) : PyData := D.ob 0 [(.str "tops", .list ts), (.str "rows", .list rs), (.str "gain", .list gs)]
def spI (K : PySem.W.Frag) (cls xc : Nat → Addr) (fp : List PyData → O PyData) : Sp := fun vs H Q E => ∃ x dx v1 v2 v3 d1 d2 d3, vs = [.ref x, v1, v2, v3] ∧ H x = some (.ins (cls 0) dx []) ∧ RepL K cls H [v1, v2, v3] [d1, d2, d3] ∧
  OPost (fun d => ∃ k, d = .bool k ∧ if k = true then
      ∃ a1 a2 a3 xs1 xs2 xs3, v1 = .ref a1 ∧ v2 = .ref a2 ∧ v3 = .ref a3 ∧ H a1 = some (.lst xs1) ∧ H a2 = some (.lst xs2) ∧ H a3 = some (.lst xs3) ∧
        ∀ H' p1 p2 p3, (∀ b o, b ≠ x → H b = some o → H' b = some o) → H p1 = none → H p2 = none → H p3 = none → H' p1 = some (.lst xs1) → H' p2 = some (.lst xs2) → H' p3 = some (.lst xs3) → H' x = some (.ins (cls 0) dx (pf p1 p2 p3)) → Q .non H'
    else ∀ H', Same H H' → E (.ref (xc 1)) none H') (fun _ => False) (fp [d1, d2, d3])
/-- the reading of __init__ -/
def tInit (K : PySem.W.Frag) (cls xc : Nat → Addr) (fp : List PyData → O PyData) (W : WX) : TS :=
  tSeq (tIfS (tNot fun σ H Q => tCallS (spF K cls xc 3 fp) (WE W) (tCons (tVar 1) (tCons (tVar 2) (tCons (tVar 3) tNil))) σ H fun x H' => ∃ k, TruV K x H' k ∧ Q k H') (fun _ σ H => W (.ref (xc 1)) none σ H) tNext)
    (tSeq (sFld K (tVar 0) (tCB (rListOf K) (tCons (tVar 1) tNil)) "tops")
    (tSeq (sFld K (tVar 0) (tCB (rListOf K) (tCons (tVar 2) tNil)) "rows")
      (sFld K (tVar 0) (tCB (rListOf K) (tCons (tVar 3) tNil)) "gain")))
section
variable {P : Program} {w : World} {K : PySem.W.Frag} {mg : Str → Option Value} {base : Heap} {cls xc : Nat → Addr} {fp : List PyData → O PyData}
theorem init_pure (cl : Cls K (cls 0)) (n1 : NoAttr K (cls 0) "tops") (n2 : NoAttr K (cls 0) "rows") (n3 : NoAttr K (cls 0) "gain") {vs : List V} {H : Hp} {Q : VK} {E : XK} (h : spI K cls xc fp vs H Q E) :
    tInit K cls xc fp (fun c d _ H => E c d H) { nx := fun _ H' => Q .non H', rt := Q } (L2.start ["self", "tops", "rows", "gain"] vs) H := by
  obtain ⟨x, dx, v1, v2, v3, d1, d2, d3, rfl, hx, r, q⟩ := h
  refine ⟨v1, rfl, v2, rfl, v3, rfl, H, [d1, d2, d3], Same.refl _, r, rfl, ?_⟩
  cases e : fp [d1, d2, d3] with
  | ex n => rw [e] at q; exact q.elim
  | bad => rw [e] at q; exact q.elim
  | ok d =>
    rw [e] at q
    obtain ⟨k, rfl, q⟩ := q
    intro v H1 F1 e1 r1
    cases r1
    refine ⟨k, rfl, ?_⟩
    cases k with
    | false => exact q H1 e1.h
    | true =>
      obtain ⟨a1, a2, a3, xs1, xs2, xs3, rfl, rfl, rfl, h1, h2, h3, q⟩ := q
      have s1 : Same H H1 := e1.h
      -- self.tops = list(tops)
      refine ⟨_, rfl, a1, xs1, rfl, .inl (SqL.of (s1 _ _ h1)), fun p1 np1 => ?_⟩
      have s2 : Same H1 (upd H1 p1 (.lst xs1)) := same_upd np1
      refine ⟨_, rfl, x, cls 0, dx, [], rfl, s2 _ _ (s1 _ _ hx), cl, n1, (by show 0 < 1000; decide), ?_⟩
      generalize hH2 : upd (upd H1 p1 (.lst xs1)) x (.ins (cls 0) dx (putF "tops" (.ref p1) [])) = H2
      have x1 : x ≠ p1 := ne_of_none (s1 _ _ hx) np1
      have k2 : ∀ b o, b ≠ x → H b = some o → H2 b = some o := fun b o hb z => by rw [← hH2, upd_ne hb]; exact s2 _ _ (s1 _ _ z)
      have hx2 : H2 x = some (.ins (cls 0) dx (putF "tops" (.ref p1) [])) := by rw [← hH2]; exact upd_same
      have hp1 : H2 p1 = some (.lst xs1) := by rw [← hH2, upd_ne x1.symm]; exact upd_same
      have f2 : ∀ {p}, H2 p = none → H p = none := fun {p} z => by
        cases q0 : H p with
        | none => rfl
        | some o =>
          by_cases px : p = x
          · subst px; rw [hx2] at z; cases z
          · rw [k2 p o px q0] at z; cases z
      have ax : ∀ {a xs}, H a = some (.lst xs) → a ≠ x := fun {a xs} z e => by subst e; rw [hx] at z; cases z
      -- self.rows = list(rows)
      refine ⟨_, rfl, a2, xs2, rfl, .inl (SqL.of (k2 _ _ (ax h2) h2)), fun p2 np2 => ?_⟩
      have x2 : x ≠ p2 := ne_of_none hx2 np2
      refine ⟨_, rfl, x, cls 0, dx, _, rfl, (by rw [upd_ne x2]; exact hx2), cl, n2, (by show 1 < 1000; decide), ?_⟩
      generalize hH3 : upd (upd H2 p2 (.lst xs2)) x (.ins (cls 0) dx (putF "rows" (.ref p2) (putF "tops" (.ref p1) []))) = H3
      have k3 : ∀ b o, b ≠ x → H2 b = some o → H3 b = some o := fun b o hb z => by rw [← hH3, upd_ne hb]; exact same_upd np2 _ _ z
      have hx3 : H3 x = some (.ins (cls 0) dx (putF "rows" (.ref p2) (putF "tops" (.ref p1) []))) := by rw [← hH3]; exact upd_same
      have hp2 : H3 p2 = some (.lst xs2) := by rw [← hH3, upd_ne x2.symm]; exact upd_same
      have f3 : ∀ {p}, H3 p = none → H2 p = none := fun {p} z => by
        cases q0 : H2 p with
        | none => rfl
        | some o =>
          by_cases px : p = x
          · subst px; rw [hx3] at z; cases z
          · rw [k3 p o px q0] at z; cases z
      -- self.gain = list(gain)
      refine ⟨_, rfl, a3, xs3, rfl, .inl (SqL.of (k3 _ _ (ax h3) (k2 _ _ (ax h3) h3))), fun p3 np3 => ?_⟩
      have x3 : x ≠ p3 := ne_of_none hx3 np3
      refine ⟨_, rfl, x, cls 0, dx, _, rfl, (by rw [upd_ne x3]; exact hx3), cl, n3, ?_, ?_⟩
      · have e2 : (putF "rows" (.ref p2) (putF "tops" (.ref p1) []) : List (Str × V)).length ≤ 2 := by
          have h1 : ¬ (("tops" : Str) = "rows") := by decide +kernel
          show (if ("tops" : Str) = "rows" then [(("rows" : Str), V.ref p2)] else (("tops" : Str), V.ref p1) :: putF "rows" (.ref p2) []).length ≤ 2
          rw [if_neg h1]
          exact Nat.le_refl _
        omega
      · refine q _ p1 p2 p3 (fun b o hb z => ?_) (s1.free np1) (f2 np2) (f2 (f3 np3)) ?_ ?_ ?_ upd_same
        · rw [upd_ne hb]
          exact same_upd np3 _ _ (k3 _ _ hb (k2 _ _ hb z))
        · rw [upd_ne x1.symm]
          exact same_upd np3 _ _ (k3 _ _ x1.symm hp1)
        · rw [upd_ne x2.symm]
          exact same_upd np3 _ _ hp2
        · rw [upd_ne x3.symm]
          exact upd_same
theorem init_ok {st : Stmt} {f : Addr} {fd : FuncData} {k : Nat} (F : Fun K "__init__" "Problem.__init__" st f fd) (S : FnScope ["self", "tops", "rows", "gain"] ["self", "tops", "rows", "gain"] (defScope st))
    (cl : Cls K (cls 0)) (n1 : NoAttr K (cls 0) "tops") (n2 : NoAttr K (cls 0) "rows") (n3 : NoAttr K (cls 0) "gain")
    (h : ∀ (cdv : Value) (A : Around) (outer : List Env) (s : Shared) (H : Hp) (E : XK), Room k (A.deeper (PyProof.Rows.envOfC "Problem.__init__" (defScope st) s.heap.objs.size f cdv)) →
      PSs (cxOf (L2.CX P w) P w K mg base ["self", "tops", "rows", "gain"] "Problem.__init__" (defScope st) f cdv A outer s H E) (defBody st) (tInit K cls xc fp fun c d _ H => E c d H)) :
    FnOk P w K mg base (L2.CX P w) (k + 1) f fd ["self", "tops", "rows", "gain"] (spI K cls xc fp) := by
  refine F.okX S (fun vs H Q E h => ?_) (fun cdv A outer s H vs Q E hr hsp => ⟨_, h cdv A outer s H E hr, init_pure cl n1 n2 n3 hsp⟩)
  obtain ⟨x, dx, v1, v2, v3, d1, d2, d3, rfl, _⟩ := h
  rfl
end
/-- the class, as callers need it -/
def MkAt (P : Program) (w : World) (K : PySem.W.Frag) (mg : Str → Option Value) (base : Heap) (cls xc : Nat → Addr) (k : Nat) (fp : List PyData → O PyData) : Prop :=
  ∃ f fd, FnOk P w K mg base (L2.CX P w) k f fd ["self", "tops", "rows", "gain"] (spI K cls xc fp) ∧ Mk K (cls 0) f ∧ mg "Problem" = some (.ref (cls 0)) ∧ Binds K fd ["self", "tops", "rows", "gain"] []
theorem pe_makeO {X : Cx} {cls xc : Nat → Addr} {k j : Nat} {fp : List PyData → O PyData} {E : XK} {p pos : Pos} {e : Expr} {es : List Expr} {t : TA} (o : MkAt X.prog X.w X.K X.mg X.base cls xc k fp) (hr : Room j X.A) (hk : k + 1 ≤ j) (hg : Gl X "Problem")
    (hx : Passes (L2.CX X.prog X.w) X E) (ha : PA X (e :: es) t) (he : starEach (e :: es) X.env = (false, eval e X.env) :: starEach es X.env := by rfl) (hpl : (backTo pos (starEach es X.env)).any (·.1) = false := by rfl) :
    PE X (.Call (.Name "Problem" p) (e :: es) [] pos) (tMake (cls 0) (spI X.K cls xc fp) [] E t) := by
  obtain ⟨f, fd, F, M, m, b⟩ := o
  exact pe_make M F (hr.mono hk) hg m b .nil hx ha (by decide) he hpl
theorem passW {X : Cx} {W : WX} {E : XK} (tk : Takes X W) (hE : W = fun c d _ H => E c d H) : Passes (L2.CX X.prog X.w) X E := passes_call tk fun c d σ H h => by rw [hE]; exact h
section
variable {K : PySem.W.Frag} {c : Ct} {own : List Nat} {b : Bool} {F H F' H' : Hp} {σ : L2.St} {ρ : Rho}
/-- what is_problem takes -/
def IsP (fp : List PyData → O PyData) : Prop := ∀ ds, fp ds = .ok (.bool true) → ∃ ts rs gs, ds = [.list ts, .list rs, .list gs]
def makeP (fp : List PyData → O PyData) (ds : List PyData) : O PyData := (noEx (fp ds)).bind fun d => match d with
  | .bool true => (match ds with
    | [.list ts, .list rs, .list gs] => .ok (D.prob ts rs gs)
    | _ => .bad)
  | .bool false => .ex 1
  | _ => .bad
def gMake (fp : List PyData → O PyData) (g : Rho → O (List PyData)) : Rho → O PyData := fun ρ => (g ρ).bind fun ds => if ds.length = 3 then makeP fp ds else .bad
/-- what stands in H' for good, if it is among what is kept -/
theorem upd_in {F' H' : Hp} {p a : Addr} {o u : HO} (hp : H' p = some o) (h : H' a = some u) (hf : a = p ∨ F' a = some u) : upd F' p o a = some u := by
  by_cases e : a = p
  · subst e
    rw [upd_same]
    rw [hp] at h
    exact h
  · rw [upd_ne e]
    exact hf.resolve_left e
theorem made_ext {H1 F1 H2 : Hp} {x dx p1 p2 p3 : Addr} {ts rs gs : List PyData} {xs1 xs2 xs3 : List V} (s : Same F1 H1) (nx : H1 x = none) (nd : H1 dx = none) (ne : dx ≠ x)
    (k : ∀ b o, b ≠ x → (upd (upd H1 dx (.own x)) x (.ins (c.cls 0) dx [])) b = some o → H2 b = some o)
    (n1 : (upd (upd H1 dx (.own x)) x (.ins (c.cls 0) dx [])) p1 = none) (n2 : (upd (upd H1 dx (.own x)) x (.ins (c.cls 0) dx [])) p2 = none) (n3 : (upd (upd H1 dx (.own x)) x (.ins (c.cls 0) dx [])) p3 = none)
    (q1 : H2 p1 = some (.lst xs1)) (q2 : H2 p2 = some (.lst xs2)) (q3 : H2 p3 = some (.lst xs3)) (qx : H2 x = some (.ins (c.cls 0) dx (pf p1 p2 p3)))
    (r1 : RepL K c.cls F1 xs1 ts) (r2 : RepL K c.cls F1 xs2 rs) (r3 : RepL K c.cls F1 xs3 gs) : ∃ F2, Ext F1 H1 F2 H2 ∧ Rep K c.cls F2 (.ref x) (D.prob ts rs gs) := by
  have hs : Same H1 H2 := fun b o z => by
    have b1 : b ≠ x := ne_of_none z nx
    have b2 : b ≠ dx := ne_of_none z nd
    exact k b o b1 (by rw [upd_ne b1, upd_ne b2]; exact z)
  have free : ∀ {p}, (upd (upd H1 dx (.own x)) x (.ins (c.cls 0) dx [])) p = none → H1 p = none := fun {p} z => by
    cases q : H1 p with
    | none => rfl
    | some o =>
      have b1 : p ≠ x := ne_of_none q nx
      have b2 : p ≠ dx := ne_of_none q nd
      rw [upd_ne b1, upd_ne b2, q] at z
      cases z
  have e0 : Ext F1 H1 F1 H2 := ⟨Same.refl _, hs, s.trans hs, fun _ _ z => .inl z⟩
  have e1 := e0.keep (free n1) q1
  have e2 := e1.keep (free n2) q2
  have e3 := e2.keep (free n3) q3
  have e4 := e3.keep nx qx
  refine ⟨_, e4, .ob upd_same ?_⟩
  rw [pf_eq]
  have w1 : upd (upd (upd (upd F1 p1 (.lst xs1)) p2 (.lst xs2)) p3 (.lst xs3)) x (.ins (c.cls 0) dx (pf p1 p2 p3)) p1 = some (.lst xs1) :=
    upd_in qx q1 (.inr (upd_in q3 q1 (.inr (upd_in q2 q1 (.inr upd_same)))))
  have w2 : upd (upd (upd (upd F1 p1 (.lst xs1)) p2 (.lst xs2)) p3 (.lst xs3)) x (.ins (c.cls 0) dx (pf p1 p2 p3)) p2 = some (.lst xs2) :=
    upd_in qx q2 (.inr (upd_in q3 q2 (.inr upd_same)))
  have w3 : upd (upd (upd (upd F1 p1 (.lst xs1)) p2 (.lst xs2)) p3 (.lst xs3)) x (.ins (c.cls 0) dx (pf p1 p2 p3)) p3 = some (.lst xs3) :=
    upd_in qx q3 (.inr upd_same)
  exact .cons (.ls w1 (r1.mono e4.f)) (.cons (.ls w2 (r2.mono e4.f)) (.cons (.ls w3 (r3.mono e4.f)) .nil))
theorem paired3 {α β : Type} {G : α → β → Prop} {xs : List α} {y z u : β} (h : Paired G xs [y, z, u]) : ∃ x x' x'', xs = [x, x', x''] ∧ G x y ∧ G x' z ∧ G x'' u := by
  cases h with
  | cons r t =>
    obtain ⟨x', x'', rfl, r', r''⟩ := paired2 t
    exact ⟨_, _, _, rfl, r, r', r''⟩
theorem fe_make {fp : List PyData → O PyData} {t : TA} {g : Rho → O (List PyData)} {E : XK} (hW : c.W = fun cl d _ H => E cl d H) (h : FA K c own false t g) : FE K c own b (tMake (c.cls 0) (spI K c.cls c.xc fp) [] E t) (gMake fp g) := FE.any fun σ H F ρ Q S q => by
  refine h σ H F ρ _ S (OPost.imp (fun ds q vs H1 F1 e1 r1 => ?_) (fun _ q => q) (OPost.bind q))
  split at q
  · rename_i hn
    obtain ⟨d1, d2, d3, rfl⟩ : ∃ a b c, ds = [a, b, c] := by
      match ds, hn with
      | [a, b, c], _ => exact ⟨a, b, c, rfl⟩
    obtain ⟨v1, v2, v3, rfl, y1, y2, y3⟩ := paired3 (show Paired (Rep1 K c F1 H1) vs [d1, d2, d3] from r1)
    intro x dx nx nd ne
    have sm : Same H1 (upd (upd H1 dx (.own x)) x (.ins (c.cls 0) dx [])) := fun b o z => by
      rw [upd_ne (ne_of_none z nx), upd_ne (ne_of_none z nd)]
      exact z
    refine ⟨x, dx, v1, v2, v3, d1, d2, d3, rfl, upd_same, ?_, ?_⟩
    · exact (RepL.cons (y1.full e1.s) (.cons (y2.full e1.s) (.cons (y3.full e1.s) .nil))).mono sm
    · unfold makeP at q
      cases e : fp [d1, d2, d3] with
      | ex n =>
        rw [e] at q
        exact (show False from q)
      | bad => rw [e] at q; exact (show False from q)
      | ok d =>
        rw [e] at q
        have q : OPost _ _ (match d with
          | .bool true => (match [d1, d2, d3] with
            | [.list ts, .list rs, .list gs] => O.ok (D.prob ts rs gs)
            | _ => .bad)
          | .bool false => .ex 1
          | _ => .bad) := q
        split at q
        · split at q
          · rename_i ts rs gs eq
            cases eq
            obtain ⟨a1, xs1, rfl, h1, z1⟩ := y1.lst e1.s
            obtain ⟨a2, xs2, rfl, h2, z2⟩ := y2.lst e1.s
            obtain ⟨a3, xs3, rfl, h3, z3⟩ := y3.lst e1.s
            refine ⟨true, rfl, ?_⟩
            rw [if_pos rfl]
            refine ⟨a1, a2, a3, xs1, xs2, xs3, rfl, rfl, rfl, sm _ _ h1, sm _ _ h2, sm _ _ h3, fun H2 p1 p2 p3 k n1 n2 n3 q1 q2 q3 qx => ⟨rfl, ?_⟩⟩
            obtain ⟨F2, e2, r2⟩ := made_ext (c := c) e1.s nx nd ne k n1 n2 n3 q1 q2 q3 qx z1 z2 z3
            exact q _ _ _ (e1.trans e2) r2
          · exact q.elim
        · refine ⟨false, rfl, ?_⟩
          rw [if_neg Bool.false_ne_true]
          intro H2 s2
          have := q H2 (e1.h.trans (sm.trans s2))
          rw [hW] at this
          exact this
        · exact q.elim
  · exact q.elim
end
end Fn

set_option Elab.async false
set_option linter.all false
set_option maxRecDepth 100000
/-! What comes of the words at a state: equations for simp; loops. -/
namespace Fn
open PySem PySem.Spec L2

/-! the line of lengths is kept shut -/
theorem lim_ge {n : Nat} (h : n ≤ 1000) : n ≤ lim := by unfold lim; omega
theorem lim_gt {n : Nat} (h : n < 1000) : n < lim := by unfold lim; omega
theorem limI_ge {n : Int} (h : n ≤ 1000) : n ≤ (lim : Int) := by unfold lim; omega
theorem limI_neg {n : Int} (h : -1000 ≤ n) : -(lim : Int) ≤ n := by unfold lim; omega
@[simp] theorem lim_ge0 : 0 ≤ lim := lim_ge (by decide)
@[simp] theorem lim_ge1 : 1 ≤ lim := lim_ge (by decide)
@[simp] theorem lim_ge2 : 2 ≤ lim := lim_ge (by decide)
@[simp] theorem lim_ge3 : 3 ≤ lim := lim_ge (by decide)
@[simp] theorem lim_ge4 : 4 ≤ lim := lim_ge (by decide)
@[simp] theorem lim_ge5 : 5 ≤ lim := lim_ge (by decide)
@[simp] theorem lim_ge6 : 6 ≤ lim := lim_ge (by decide)
theorem rng1_nat {m : Nat} (h : m ≤ 1000) : rng1 [.int m] = .ok (rangeD 0 m) := by
  show (if -(lim : Int) ≤ (m : Int) ∧ (m : Int) ≤ lim then O.ok (rangeD 0 (m : Int).toNat) else .bad) = _
  rw [if_pos ⟨limI_neg (by omega), limI_ge (by omega)⟩, Int.toNat_natCast]
section
variable (ρ : Rho) (d e : PyData) (ds es : List PyData) (g h u w : Rho → O PyData) (ga gb : Rho → O PyData) (gs : Rho → O (List PyData)) (t t' : Rho → O Bool) (r s : Rho → R) (i j k : Int) (n m : Nat)
@[simp] theorem bind_ok {α β : Type} (a : α) (f : α → O β) : O.bind (.ok a) f = f a := rfl
@[simp] theorem bind_ex {α β : Type} (n : Nat) (f : α → O β) : O.bind (.ex n) f = .ex n := rfl
@[simp] theorem bind_bad {α β : Type} (f : α → O β) : O.bind .bad f = .bad := rfl
@[simp] theorem go_ok {α : Type} (a : α) (f : α → R) : (O.ok a).go f = f a := rfl
@[simp] theorem go_ex {α : Type} (n : Nat) (f : α → R) : (O.ex n : O α).go f = .ex n := rfl
@[simp] theorem go_bad {α : Type} (f : α → R) : (O.bad : O α).go f = .bad := rfl
@[simp] theorem seq_nx (f : Rho → R) : (R.nx ρ).seq f = f ρ := rfl
@[simp] theorem seq_rt (f : Rho → R) : (R.rt d).seq f = .rt d := rfl
@[simp] theorem seq_ex (f : Rho → R) : (R.ex n).seq f = .ex n := rfl
@[simp] theorem seq_bad (f : Rho → R) : R.bad.seq f = .bad := rfl
@[simp] theorem seq_bk (f : Rho → R) : (R.bk ρ).seq f = .bk ρ := rfl
@[simp] theorem seq_ct (f : Rho → R) : (R.ct ρ).seq f = .ct ρ := rfl
@[simp] theorem noEx_ok {α : Type} (a : α) : noEx (.ok a) = .ok a := rfl
@[simp] theorem noEx_ex {α : Type} (n : Nat) : noEx (.ex n : O α) = .bad := rfl
@[simp] theorem noEx_bad {α : Type} : noEx (.bad : O α) = .bad := rfl
@[simp] theorem gC_ap : gC d ρ = .ok d := rfl
@[simp] theorem g2_ap (op : PyData → PyData → O PyData) : g2 op ga gb ρ = (ga ρ).bind fun d => (gb ρ).bind fun e => op d e := rfl
@[simp] theorem g1_ap (op : PyData → O PyData) : g1 op ga ρ = (ga ρ).bind op := rfl
@[simp] theorem gNilA_ap : gNilA ρ = .ok [] := rfl
@[simp] theorem gConsA_ap : gConsA g gs ρ = (g ρ).bind fun d => (gs ρ).bind fun ds => .ok (d :: ds) := rfl
@[simp] theorem gCall_ap (f : List PyData → O PyData) : gCall f gs ρ = (gs ρ).bind f := rfl
@[simp] theorem gTup_ap : Fn.gTup gs ρ = (gs ρ).bind fun ds => if ds.length ≤ lim then .ok (.tuple ds) else .bad := rfl
@[simp] theorem gLst_ap : gLst gs ρ = (gs ρ).bind fun ds => if ds.length ≤ lim then .ok (.list ds) else .bad := rfl
@[simp] theorem gBl_ap : gBl g ρ = (g ρ).bind fun d => match d with
  | .bool k => .ok k
  | _ => .bad := rfl
@[simp] theorem gTru_ap : gTru g ρ = (g ρ).bind truD := rfl
@[simp] theorem gNotT_ap : gNotT t ρ = (t ρ).bind fun k => .ok (!k) := rfl
@[simp] theorem gAndT_ap : gAndT t t' ρ = (t ρ).bind fun k => if k = true then t' ρ else .ok false := rfl
@[simp] theorem gOrT_ap : gOrT t t' ρ = (t ρ).bind fun k => if k = true then .ok true else t' ρ := rfl
@[simp] theorem gAndV_ap : gAndV g h ρ = (gBl g ρ).bind fun k => if k = true then h ρ else .ok (.bool false) := rfl
@[simp] theorem gOrV_ap : gOrV g h ρ = (gBl g ρ).bind fun k => if k = true then .ok (.bool true) else h ρ := rfl
@[simp] theorem gNotV_ap : gNotV g ρ = (gBl g ρ).bind fun k => .ok (.bool (!k)) := rfl
@[simp] theorem gIf_ap : gIf t g h ρ = (t ρ).bind fun k => if k = true then g ρ else h ρ := rfl
@[simp] theorem g2L_ap (op : PyData → PyData → O (List PyData)) : g2L op ga gb ρ = (ga ρ).bind fun d => (gb ρ).bind fun e => (op d e).bind fun ds => .ok (.list ds) := rfl
@[simp] theorem gNoP_ap : gNoP ρ = .ok none := rfl
@[simp] theorem gPart_ap : gPart g ρ = (g ρ).bind fun d => match d with
  | .int i => .ok (some i)
  | _ => .bad := rfl
@[simp] theorem gSl_ap (gl gh : Rho → O (Option Int)) : gSl g gl gh ρ = (g ρ).bind fun d => (gl ρ).bind fun lo => (gh ρ).bind fun hi => dSl d lo hi := rfl
@[simp] theorem gSlL_ap (gl gh : Rho → O (Option Int)) : gSlL g gl gh ρ = (g ρ).bind fun d => (gl ρ).bind fun lo => (gh ρ).bind fun hi => dSlL d lo hi := rfl
@[simp] theorem gListOf_ap : gListOf gs ρ = (gs ρ).bind fun ds => (bListL ds).bind fun es => .ok (.list es) := rfl
@[simp] theorem gIsi_ap (T : String) : gIsi T g ρ = (g ρ).bind (bIsi T) := rfl
@[simp] theorem gChain_ap (op op' : PyData → PyData → O PyData) : gChain op op' g h u ρ = (g ρ).bind fun d => (h ρ).bind fun e => (noEx (op d e)).bind fun z => match z with
  | .bool k => if k = true then (u ρ).bind fun f => noEx (op' e f) else .ok (.bool false)
  | _ => .bad := rfl
@[simp] theorem gFn_ap (f : List PyData → O PyData) : gFn n f gs ρ = (gs ρ).bind fun ds => if ds.length = n then f ds else .bad := rfl
@[simp] theorem gFnB_ap (f : List PyData → O PyData) : gFnB n f gs ρ = (gs ρ).bind fun ds => if ds.length = n then (f ds).bind flatO else .bad := rfl
@[simp] theorem gMake_ap (f : List PyData → O PyData) : gMake f gs ρ = (gs ρ).bind fun ds => if ds.length = 3 then makeP f ds else .bad := rfl
@[simp] theorem gNext_ap : gNext ρ = .nx ρ := rfl
@[simp] theorem gSeq_ap : gSeq r s ρ = (r ρ).seq s := rfl
@[simp] theorem gIfS_ap : gIfS t r s ρ = (t ρ).go fun k => if k = true then r ρ else s ρ := rfl
@[simp] theorem gSet_ap : gSet n g ρ = (g ρ).go fun d => .nx (ρ.set n (some d)) := rfl
@[simp] theorem gAsg_ap (f : PyData → Rho → O Rho) : gAsg f g ρ = (g ρ).go fun d => (f d ρ).go .nx := rfl
@[simp] theorem aName_ap : aName n d ρ = .ok (ρ.set n (some d)) := rfl
@[simp] theorem aTup_ap (f : List PyData → Rho → O Rho) : aTup f (.tuple ds) ρ = f ds ρ := rfl
@[simp] theorem aNil_ap : aNil [] ρ = .ok ρ := rfl
@[simp] theorem aCons_ap (f : PyData → Rho → O Rho) (fs : List PyData → Rho → O Rho) : aCons f fs (d :: ds) ρ = (f d ρ).bind fun ρ' => fs ds ρ' := rfl
@[simp] theorem gDrop_ap : gDrop g ρ = (g ρ).go fun _ => .nx ρ := rfl
@[simp] theorem gRet_ap : gRet g ρ = (g ρ).go .rt := rfl
@[simp] theorem gRetN_ap : gRetN ρ = .rt .none := rfl
@[simp] theorem gRaise_ap : gRaise n ρ = .ex n := rfl
@[simp] theorem gBreak_ap : gBreak ρ = .bk ρ := rfl
@[simp] theorem gCont_ap : gCont ρ = .ct ρ := rfl
@[simp] theorem gAppend_ap : gAppend n g ρ = (lsAt n ρ).go fun _ => (g ρ).go fun d => (lsAt n ρ).go fun ds => if ds.length < lim then .nx (ρ.set n (some (.list (ds ++ [d])))) else .bad := rfl
@[simp] theorem gExtend_ap : gExtend n g ρ = (lsAt n ρ).go fun _ => (g ρ).go fun d => match d with
  | .list es => (lsAt n ρ).go fun ds => if ds.length + es.length ≤ lim then .nx (ρ.set n (some (.list (ds ++ es)))) else .bad
  | _ => .bad := rfl
@[simp] theorem gClear_ap : gClear n ρ = (lsAt n ρ).go fun _ => .nx (ρ.set n (some (.list []))) := rfl
@[simp] theorem gPopSet_ap : gPopSet m n ρ = (lsAt n ρ).go fun ds => match ds[ds.length - 1]? with
  | some d => .nx ((ρ.set n (some (.list ds.dropLast))).set m (some d))
  | none => .bad := rfl
@[simp] theorem gSetIx_ap : gSetIx n h g ρ = (g ρ).go fun d => (lsAt n ρ).go fun _ => (h ρ).go fun k => match k with
  | .int k => (lsAt n ρ).go fun ds => match ixN ds.length k with
    | some j => .nx (ρ.set n (some (.list (ds.set j d))))
    | none => .bad
  | _ => .bad := rfl
theorem gFor_ap (f : PyData → Rho → O Rho) : gFor f gs r ρ = (gs ρ).go fun ds => forL f r ds ρ := rfl
@[simp] theorem gItA_ap : gItA g ρ = (g ρ).bind itemsA := rfl
@[simp] theorem gRng1_ap : gRng1 gs ρ = (gs ρ).bind rng1 := rfl
@[simp] theorem gRng2_ap : gRng2 gs ρ = (gs ρ).bind rng2 := rfl
@[simp] theorem gEnum_ap : gEnum gs ρ = (gs ρ).bind enumI := rfl
@[simp] theorem gZip_ap : gZip gs ρ = (gs ρ).bind zipI := rfl
@[simp] theorem gYes_ap : gYes ρ = .ok true := rfl
@[simp] theorem gFld_ap (f : Str) : gFld f n g ρ = (g ρ).bind fun d => match d with
  | .dict ((.bool true, .int j) :: gs) => if j = (n : Int) then (match fieldD f gs with
    | some e => .ok e
    | none => .bad) else .bad
  | _ => .bad := rfl
theorem gComp_ap (vs : List Nat) (f : PyData → Rho → O Rho) (gi : Rho → O (List PyData)) : gComp vs f t g gi ρ = (gi ρ).bind fun ds => if ds.length ≤ lim then (compL f t g (wipeR ρ vs) ds).bind fun ys => .ok (.list ys) else .bad := rfl
@[simp] theorem wipeR_nil : wipeR ρ [] = ρ := rfl
@[simp] theorem wipeR_cons (v : Nat) (vs : List Nat) : wipeR ρ (v :: vs) = (wipeR ρ vs).set v none := rfl
/-! slots -/
@[simp] theorem gVar_0 : gVar 0 (some d :: ρ) = .ok d := rfl
@[simp] theorem gVar_s (x : Option PyData) : gVar (n + 1) (x :: ρ) = gVar n ρ := rfl
@[simp] theorem lsAt_0 : lsAt 0 (some (.list ds) :: ρ) = .ok ds := rfl
@[simp] theorem lsAt_s (x : Option PyData) : lsAt (n + 1) (x :: ρ) = lsAt n ρ := rfl
/-! operators -/
@[simp] theorem dAdd_int : dAdd (.int i) (.int j) = .ok (.int (i + j)) := rfl
@[simp] theorem dSub_int : dSub (.int i) (.int j) = .ok (.int (i - j)) := rfl
@[simp] theorem dMul_int : dMul (.int i) (.int j) = if mulOk i j = true then .ok (.int (i * j)) else .bad := rfl
@[simp] theorem dMod_int : dMod (.int i) (.int j) = if 0 < j then .ok (.int (i % j)) else .bad := rfl
@[simp] theorem dFdiv_int : dFdiv (.int i) (.int j) = if 0 < j ∧ j.natAbs.log2 < 9000 then .ok (.int (i / j)) else .bad := rfl
@[simp] theorem dNeg_int : dNeg (.int i) = .ok (.int (-i)) := rfl
@[simp] theorem dLt_int : dLt (.int i) (.int j) = .ok (.bool (decide (i < j))) := rfl
@[simp] theorem dLe_int : dLe (.int i) (.int j) = .ok (.bool (decide (i ≤ j))) := rfl
@[simp] theorem dGt_int : dGt (.int i) (.int j) = .ok (.bool (decide (j < i))) := rfl
@[simp] theorem dGe_int : dGe (.int i) (.int j) = .ok (.bool (decide (j ≤ i))) := rfl
@[simp] theorem dEq_int : dEq (.int i) (.int j) = .ok (.bool (decide (i = j))) := by
  have : PyData.eqv (.int i) (.int j) = decide (i = j) := by
    show (i == j) = decide (i = j)
    rfl
  show (if (true || _) = true then O.ok (PyData.bool (PyData.eqv (.int i) (.int j))) else .bad) = _
  rw [this]
  rfl
@[simp] theorem dNe_int : dNe (.int i) (.int j) = .ok (.bool (!decide (i = j))) := by
  have : PyData.eqv (.int i) (.int j) = decide (i = j) := by
    show (i == j) = decide (i = j)
    rfl
  show (if (true || _) = true then O.ok (PyData.bool (!PyData.eqv (.int i) (.int j))) else .bad) = _
  rw [this]
  rfl
@[simp] theorem dCat_l : dCat (.list ds) (.list es) = if ds.length + es.length ≤ lim then .ok (ds ++ es) else .bad := rfl
@[simp] theorem dAdd_l : dAdd (.list ds) (.list es) = if ds.length + es.length ≤ lim then .ok (.list (ds ++ es)) else .bad := rfl
@[simp] theorem dRep_l : dRep (.list ds) (.int k) = repL ds k := rfl
@[simp] theorem dMul_l : dMul (.list ds) (.int k) = (repL ds k).bind fun ys => .ok (.list ys) := rfl
@[simp] theorem dSl_l (lo hi : Option Int) : dSl (.list ds) lo hi = .ok (.list (cutL ds lo hi)) := rfl
@[simp] theorem dSlL_l (lo hi : Option Int) : dSlL (.list ds) lo hi = .ok (.list (cutL ds lo hi)) := rfl
@[simp] theorem bLen_l : bLen [.list ds] = .ok (.int ds.length) := rfl
@[simp] theorem bLen_t : bLen [.tuple ds] = .ok (.int ds.length) := rfl
@[simp] theorem bLen_r : bLen [D.ro ds] = .ok (.int ds.length) := rfl
@[simp] theorem bListL_l : bListL [.list ds] = .ok ds := rfl
@[simp] theorem bListL_t : bListL [.tuple ds] = .ok ds := rfl
@[simp] theorem bTup_l : bTup [.list ds] = .ok (.tuple ds) := rfl
@[simp] theorem bTup_t : bTup [.tuple ds] = .ok (.tuple ds) := rfl
@[simp] theorem bMin_2 : bMin [.int i, .int j] = .ok (.int (if j < i then j else i)) := rfl
@[simp] theorem bMax_2 : bMax [.int i, .int j] = .ok (.int (if j > i then j else i)) := rfl
@[simp] theorem bInt_b (b : Bool) : bInt [.bool b] = .ok (.int (if b = true then 1 else 0)) := rfl
@[simp] theorem bInt_i : bInt [.int i] = .ok (.int i) := rfl
@[simp] theorem itemsA_l : itemsA (.list ds) = .ok ds := rfl
@[simp] theorem itemsA_t : itemsA (.tuple ds) = .ok ds := rfl
theorem rng1_i : rng1 [.int j] = if -(lim : Int) ≤ j ∧ j ≤ lim then .ok (rangeD 0 j.toNat) else .bad := rfl
@[simp] theorem enumI_l : enumI [.list ds] = .ok (enumD ds) := rfl
@[simp] theorem zipI_l : zipI [.list ds, .list es] = .ok (zipD ds es) := rfl
@[simp] theorem truD_b (b : Bool) : truD (.bool b) = .ok b := rfl
@[simp] theorem truD_n : truD .none = .ok false := rfl
@[simp] theorem outR_rt : outR (.rt d) = .ok d := rfl
@[simp] theorem outR_nx : outR (.nx ρ) = .ok .none := rfl
@[simp] theorem outR_ex : outR (.ex n) = .ex n := rfl
@[simp] theorem outR_bad : outR .bad = .bad := rfl
@[simp] theorem flatO_i : flatO (.int i) = .ok (.int i) := rfl
@[simp] theorem flatO_b (b : Bool) : flatO (.bool b) = .ok (.bool b) := rfl
@[simp] theorem flatO_n : flatO .none = .ok .none := rfl
theorem dIx_l {v : PyData} (h : atI ds i = some v) : dIx (.list ds) (.int i) = .ok v := by
  show (match atI ds i with
    | some d => O.ok d
    | none => .bad) = _
  rw [h]
theorem dIx_t {v : PyData} (h : atI ds i = some v) : dIx (.tuple ds) (.int i) = .ok v := by
  show (match atI ds i with
    | some d => O.ok d
    | none => .bad) = _
  rw [h]
theorem dIx_r {v : PyData} (h : atI ds i = some v) : dIx (D.ro ds) (.int i) = .ok v := by
  show (match atI ds i with
    | some d => O.ok d
    | none => .bad) = _
  rw [h]
end
/-- a product within the line: one side is small -/
theorem mulOk_l {i j : Int} (h : -(2 ^ 64) < i ∧ i < 2 ^ 64) : mulOk i j = true := by
  unfold mulOk
  rw [decide_eq_true h]
  simp
theorem mulOk_r {i j : Int} (h : -(2 ^ 64) < j ∧ j < 2 ^ 64) : mulOk i j = true := by
  unfold mulOk
  rw [decide_eq_true h]
  simp
theorem atI_of {α : Type} {xs : List α} {i : Int} (h0 : 0 ≤ i) (h : i < xs.length) : atI xs i = some (xs[i.toNat]'(by omega)) := by
  unfold atI ixN
  rw [if_pos h0, if_pos h]
  exact List.getElem?_eq_getElem _
theorem atI_neg {α : Type} {xs : List α} {i : Int} (h0 : i < 0) (h : -(xs.length : Int) ≤ i) : atI xs i = some (xs[(i + xs.length).toNat]'(by omega)) := by
  unfold atI ixN
  rw [if_neg (by omega), if_pos h]
  exact List.getElem?_eq_getElem _
theorem ixN_of {n : Nat} {i : Int} (h0 : 0 ≤ i) (h : i < n) : ixN n i = some i.toNat := by
  unfold ixN
  rw [if_pos h0, if_pos h]
/-! ### loops -/
theorem forL_inv {f : PyData → Rho → O Rho} {body : Rho → R} (I : Nat → Rho → Prop) : ∀ (ds : List PyData) (k : Nat) (ρ : Rho), I k ρ → (∀ i d ρ, ds[i]? = some d → I (k + i) ρ → ∃ ρ1 ρ2, f d ρ = .ok ρ1 ∧ body ρ1 = .nx ρ2 ∧ I (k + i + 1) ρ2) → ∃ ρ', forL f body ds ρ = .nx ρ' ∧ I (k + ds.length) ρ'
  | [], k, ρ, h, _ => ⟨ρ, rfl, h⟩
  | d :: ds, k, ρ, h, hs => by
    obtain ⟨ρ1, ρ2, h1, h2, h3⟩ := hs 0 d ρ rfl h
    obtain ⟨ρ', h4, h5⟩ := forL_inv I ds (k + 1) ρ2 h3 fun i e τ he hi => by
      have e1 : k + 1 + i = k + (i + 1) := by omega
      rw [e1] at hi ⊢
      exact hs (i + 1) e τ he hi
    refine ⟨ρ', ?_, by rw [List.length_cons]; have e1 : k + (ds.length + 1) = k + 1 + ds.length := by omega
                       rw [e1]; exact h5⟩
    unfold forL
    rw [h1, O.go_ok, h2]
    exact h4
theorem for_inv {f : PyData → Rho → O Rho} {body : Rho → R} {ds : List PyData} {ρ : Rho} (I : Nat → Rho → Prop) (h0 : I 0 ρ) (hs : ∀ i d ρ, ds[i]? = some d → I i ρ → ∃ ρ1 ρ2, f d ρ = .ok ρ1 ∧ body ρ1 = .nx ρ2 ∧ I (i + 1) ρ2) :
    ∃ ρ', forL f body ds ρ = .nx ρ' ∧ I ds.length ρ' := by
  have := forL_inv I ds 0 ρ h0 (fun i d ρ hd hi => by rw [Nat.zero_add] at hi ⊢; exact hs i d ρ hd hi)
  rw [Nat.zero_add] at this
  exact this
/-- a loop that may leave by a return -/
theorem forL_leave {f : PyData → Rho → O Rho} {body : Rho → R} (I : Nat → Rho → Prop) (P : R → Prop) : ∀ (ds : List PyData) (k : Nat) (ρ : Rho), I k ρ →
    (∀ i d ρ, ds[i]? = some d → I (k + i) ρ → ∃ ρ1, f d ρ = .ok ρ1 ∧ ((∃ ρ2, (body ρ1 = .nx ρ2 ∨ body ρ1 = .ct ρ2) ∧ I (k + i + 1) ρ2) ∨ (∃ v, body ρ1 = .rt v ∧ P (.rt v)) ∨ (∃ ρ2, body ρ1 = .bk ρ2 ∧ P (.nx ρ2)))) → (∀ ρ, I (k + ds.length) ρ → P (.nx ρ)) → P (forL f body ds ρ)
  | [], k, ρ, h, _, hp => hp ρ h
  | d :: ds, k, ρ, h, hs, hp => by
    have rest : ∀ ρ2, I (k + 1) ρ2 → P (forL f body ds ρ2) := fun ρ2 h3 => by
      refine forL_leave I P ds (k + 1) ρ2 h3 (fun i e τ he hi => ?_) fun τ ht => hp τ ?_
      · have e1 : k + 1 + i = k + (i + 1) := by omega
        rw [e1] at hi ⊢
        exact hs (i + 1) e τ he hi
      · rw [List.length_cons]
        have e1 : k + (ds.length + 1) = k + 1 + ds.length := by omega
        rw [e1]; exact ht
    obtain ⟨ρ1, h1, h2⟩ := hs 0 d ρ rfl h
    unfold forL
    rw [h1, O.go_ok]
    rcases h2 with ⟨ρ2, h2 | h2, h3⟩ | ⟨v, h2, h3⟩ | ⟨ρ2, h2, h3⟩
    · rw [h2]; exact rest ρ2 h3
    · rw [h2]; exact rest ρ2 h3
    · rw [h2]; exact h3
    · rw [h2]; exact h3
theorem for_leave {f : PyData → Rho → O Rho} {body : Rho → R} {ds : List PyData} {ρ : Rho} (I : Nat → Rho → Prop) (P : R → Prop) (h0 : I 0 ρ)
    (hs : ∀ i d ρ, ds[i]? = some d → I i ρ → ∃ ρ1, f d ρ = .ok ρ1 ∧ ((∃ ρ2, (body ρ1 = .nx ρ2 ∨ body ρ1 = .ct ρ2) ∧ I (i + 1) ρ2) ∨ (∃ v, body ρ1 = .rt v ∧ P (.rt v)) ∨ (∃ ρ2, body ρ1 = .bk ρ2 ∧ P (.nx ρ2)))) (hp : ∀ ρ, I ds.length ρ → P (.nx ρ)) : P (forL f body ds ρ) :=
  forL_leave I P ds 0 ρ h0 (fun i d ρ hd hi => by rw [Nat.zero_add] at hi ⊢; exact hs i d ρ hd hi) (fun ρ h => hp ρ (by rw [Nat.zero_add] at h; exact h))
/-! ### comprehensions -/
theorem compL_map {f : PyData → Rho → O Rho} {t : Rho → O Bool} {e : Rho → O PyData} {ρ : Rho} (y : PyData → PyData) : ∀ (ds : List PyData), (∀ d ∈ ds, ∃ ρ1, f d ρ = .ok ρ1 ∧ t ρ1 = .ok true ∧ e ρ1 = .ok (y d)) → compL f t e ρ ds = .ok (ds.map y)
  | [], _ => rfl
  | d :: ds, h => by
    obtain ⟨ρ1, h1, h2, h3⟩ := h d List.mem_cons_self
    unfold compL
    rw [h1, O.bind_ok, h2]
    show (noEx (e ρ1)).bind _ = _
    rw [h3]
    show (compL f t e ρ ds).bind _ = _
    rw [compL_map y ds fun d hd => h d (List.mem_cons_of_mem _ hd)]
    rfl
theorem compL_filter {f : PyData → Rho → O Rho} {t : Rho → O Bool} {e : Rho → O PyData} {ρ : Rho} (p : PyData → Bool) (y : PyData → PyData) : ∀ (ds : List PyData), (∀ d ∈ ds, ∃ ρ1, f d ρ = .ok ρ1 ∧ t ρ1 = .ok (p d) ∧ (p d = true → e ρ1 = .ok (y d))) → compL f t e ρ ds = .ok ((ds.filter p).map y)
  | [], _ => rfl
  | d :: ds, h => by
    obtain ⟨ρ1, h1, h2, h3⟩ := h d List.mem_cons_self
    have ih := compL_filter p y ds fun d hd => h d (List.mem_cons_of_mem _ hd)
    unfold compL
    rw [h1, O.bind_ok, h2]
    show (if p d = true then (noEx (e ρ1)).bind _ else compL f t e ρ ds) = _
    cases hp : p d with
    | true =>
      rw [if_pos rfl, h3 hp, List.filter_cons_of_pos hp]
      show (compL f t e ρ ds).bind _ = _
      rw [ih]
      rfl
    | false =>
      rw [if_neg Bool.false_ne_true, List.filter_cons_of_neg (by rw [hp]; exact Bool.false_ne_true)]
      exact ih
theorem compL_ex_of {f : PyData → Rho → O Rho} {t : Rho → O Bool} {e : Rho → O PyData} {ρ : Rho} (P : PyData → Prop) : ∀ (ds : List PyData), (∀ d ∈ ds, ∃ ρ1 y, f d ρ = .ok ρ1 ∧ t ρ1 = .ok true ∧ e ρ1 = .ok y ∧ P y) → ∃ ys, compL f t e ρ ds = .ok ys ∧ ys.length = ds.length ∧ ∀ y ∈ ys, P y
  | [], _ => ⟨[], rfl, rfl, fun y hy => by cases hy⟩
  | d :: ds, h => by
    obtain ⟨ρ1, y, h1, h2, h3, h4⟩ := h d List.mem_cons_self
    obtain ⟨ys, k1, k2, k3⟩ := compL_ex_of P ds fun d hd => h d (List.mem_cons_of_mem _ hd)
    refine ⟨y :: ys, ?_, by rw [List.length_cons, List.length_cons, k2], fun z hz => ?_⟩
    · unfold compL
      rw [h1, O.bind_ok, h2]
      show (noEx (e ρ1)).bind _ = _
      rw [h3]
      show (compL f t e ρ ds).bind _ = _
      rw [k1]
      rfl
    · rcases List.mem_cons.mp hz with rfl | hz
      · exact h4
      · exact k3 z hz
theorem rangeD_mem {lo : Int} {n : Nat} {d : PyData} (h : d ∈ rangeD lo n) : ∃ i : Nat, i < n ∧ d = .int (lo + i) := by
  unfold rangeD at h
  obtain ⟨i, hi, rfl⟩ := List.mem_map.mp h
  exact ⟨i, List.mem_range.mp hi, rfl⟩
/-- all of them whole numbers with a property -/
theorem ints_of {P : Int → Prop} : ∀ {ys : List PyData}, (∀ y ∈ ys, ∃ k, y = .int k ∧ P k) → ∃ ks : List Int, ys = ks.map PyData.int ∧ ks.length = ys.length ∧ ∀ k ∈ ks, P k
  | [], _ => ⟨[], rfl, rfl, fun k h => by cases h⟩
  | y :: ys, h => by
    obtain ⟨k, rfl, hk⟩ := h y List.mem_cons_self
    obtain ⟨ks, rfl, h2, h3⟩ := ints_of fun z hz => h z (List.mem_cons_of_mem _ hz)
    refine ⟨k :: ks, rfl, by simp, fun z hz => ?_⟩
    rcases List.mem_cons.mp hz with rfl | hz
    · exact hk
    · exact h3 z hz
end Fn
namespace Fn
open PySem PySem.Spec L2
theorem atI_getD {α : Type} {xs : List α} {i : Int} (d : α) (h0 : 0 ≤ i) (h : i < xs.length) : atI xs i = some (xs.getD i.toNat d) := by
  rw [atI_of h0 h, List.getD_eq_getElem?_getD, List.getElem?_eq_getElem (by omega)]
  rfl
theorem atI_map {α β : Type} (f : α → β) (xs : List α) (i : Int) : atI (xs.map f) i = (atI xs i).map f := by
  unfold atI
  rw [List.length_map]
  cases ixN xs.length i with
  | none => rfl
  | some j => exact List.getElem?_map
end Fn
namespace Fn
open PySem PySem.Spec L2
theorem comp_ints {vs : List Nat} {i : Nat} {E : Rho → O PyData} {gi : Rho → O (List PyData)} {ρ : Rho} {ds : List PyData} (P : Int → Prop) (hg : gi ρ = .ok ds) (hn : ds.length ≤ lim)
    (h : ∀ d ∈ ds, ∃ k, E ((wipeR ρ vs).set i (some d)) = .ok (.int k) ∧ P k) : ∃ ks : List Int, gComp vs (aName i) gYes E gi ρ = .ok (.list (ks.map PyData.int)) ∧ ks.length = ds.length ∧ ∀ k ∈ ks, P k := by
  obtain ⟨ys, h1, h2, h3⟩ := compL_ex_of (f := aName i) (t := gYes) (e := E) (ρ := wipeR ρ vs) (fun y => ∃ k, y = .int k ∧ P k) ds fun d hd => by
    obtain ⟨k, e, p⟩ := h d hd
    exact ⟨_, _, rfl, rfl, e, k, rfl, p⟩
  obtain ⟨ks, rfl, h4, h5⟩ := ints_of h3
  refine ⟨ks, ?_, h4.trans h2, h5⟩
  rw [gComp_ap, hg]
  simp [hn, h1]
theorem comp_map {vs : List Nat} {i : Nat} {E : Rho → O PyData} {gi : Rho → O (List PyData)} {ρ : Rho} {ds : List PyData} (y : PyData → PyData) (hg : gi ρ = .ok ds) (hn : ds.length ≤ lim)
    (h : ∀ d ∈ ds, E ((wipeR ρ vs).set i (some d)) = .ok (y d)) : gComp vs (aName i) gYes E gi ρ = .ok (.list (ds.map y)) := by
  rw [gComp_ap, hg]
  have := compL_map (f := aName i) (t := gYes) (e := E) (ρ := wipeR ρ vs) y ds fun d hd => ⟨_, rfl, rfl, h d hd⟩
  simp [hn, this]
theorem comp_filter {vs : List Nat} {i : Nat} {T : Rho → O Bool} {E : Rho → O PyData} {gi : Rho → O (List PyData)} {ρ : Rho} {ds : List PyData} (p : PyData → Bool) (y : PyData → PyData) (hg : gi ρ = .ok ds) (hn : ds.length ≤ lim)
    (ht : ∀ d ∈ ds, T ((wipeR ρ vs).set i (some d)) = .ok (p d)) (h : ∀ d ∈ ds, p d = true → E ((wipeR ρ vs).set i (some d)) = .ok (y d)) : gComp vs (aName i) T E gi ρ = .ok (.list ((ds.filter p).map y)) := by
  rw [gComp_ap, hg]
  have := compL_filter (f := aName i) (t := T) (e := E) (ρ := wipeR ρ vs) p y ds fun d hd => ⟨_, rfl, ht d hd, h d hd⟩
  simp [hn, this]
theorem rangeD_int (n : Nat) : rangeD 0 n = (List.range n).map fun (i : Nat) => PyData.int i := by
  unfold rangeD
  congr 1
  funext i
  rw [Int.zero_add]
theorem rangeD_at {n i : Nat} {d : PyData} (h : (rangeD 0 n)[i]? = some d) : d = .int i ∧ i < n := by
  refine ⟨by have := rangeD_get h; rw [Int.zero_add] at this; exact this, ?_⟩
  have := (List.getElem?_eq_some_iff.mp h).1
  rw [rangeD_length] at this
  exact this
theorem set_ints (ts : List Int) (j : Nat) (v : Int) : (ts.map PyData.int).set j (.int v) = (ts.set j v).map PyData.int := List.map_set.symm
end Fn
namespace Fn
open PySem PySem.Spec L2
section
variable (i : Int) (b : Bool) (z : Str) (ds : List PyData)
@[simp] theorem isi_int_n : bIsi "int" .none = .ok (.bool false) := rfl
@[simp] theorem isi_int_b : bIsi "int" (.bool b) = .ok (.bool true) := by cases b <;> rfl
@[simp] theorem isi_int_i : bIsi "int" (.int i) = .ok (.bool true) := rfl
@[simp] theorem isi_int_s : bIsi "int" (.str z) = .ok (.bool false) := rfl
@[simp] theorem isi_int_l : bIsi "int" (.list ds) = .ok (.bool false) := rfl
@[simp] theorem isi_int_t : bIsi "int" (.tuple ds) = .ok (.bool false) := rfl
@[simp] theorem isi_bool_n : bIsi "bool" .none = .ok (.bool false) := rfl
@[simp] theorem isi_bool_b : bIsi "bool" (.bool b) = .ok (.bool true) := rfl
@[simp] theorem isi_bool_i : bIsi "bool" (.int i) = .ok (.bool false) := rfl
@[simp] theorem isi_bool_s : bIsi "bool" (.str z) = .ok (.bool false) := rfl
@[simp] theorem isi_bool_l : bIsi "bool" (.list ds) = .ok (.bool false) := rfl
@[simp] theorem isi_bool_t : bIsi "bool" (.tuple ds) = .ok (.bool false) := rfl
@[simp] theorem isi_list_n : bIsi "list" .none = .ok (.bool false) := rfl
@[simp] theorem isi_list_b : bIsi "list" (.bool b) = .ok (.bool false) := rfl
@[simp] theorem isi_list_i : bIsi "list" (.int i) = .ok (.bool false) := rfl
@[simp] theorem isi_list_s : bIsi "list" (.str z) = .ok (.bool false) := rfl
@[simp] theorem isi_list_l : bIsi "list" (.list ds) = .ok (.bool true) := rfl
@[simp] theorem isi_list_t : bIsi "list" (.tuple ds) = .ok (.bool false) := rfl
@[simp] theorem isi_tuple_n : bIsi "tuple" .none = .ok (.bool false) := rfl
@[simp] theorem isi_tuple_b : bIsi "tuple" (.bool b) = .ok (.bool false) := rfl
@[simp] theorem isi_tuple_i : bIsi "tuple" (.int i) = .ok (.bool false) := rfl
@[simp] theorem isi_tuple_s : bIsi "tuple" (.str z) = .ok (.bool false) := rfl
@[simp] theorem isi_tuple_l : bIsi "tuple" (.list ds) = .ok (.bool false) := rfl
@[simp] theorem isi_tuple_t : bIsi "tuple" (.tuple ds) = .ok (.bool true) := rfl
@[simp] theorem isi_str_n : bIsi "str" .none = .ok (.bool false) := rfl
@[simp] theorem isi_str_b : bIsi "str" (.bool b) = .ok (.bool false) := rfl
@[simp] theorem isi_str_i : bIsi "str" (.int i) = .ok (.bool false) := rfl
@[simp] theorem isi_str_s : bIsi "str" (.str z) = .ok (.bool true) := rfl
@[simp] theorem isi_str_l : bIsi "str" (.list ds) = .ok (.bool false) := rfl
@[simp] theorem isi_str_t : bIsi "str" (.tuple ds) = .ok (.bool false) := rfl
end
/-! slices -/
theorem cutL_to {α : Type} (ds : List α) (k : Nat) : cutL ds none (some (k : Int)) = ds.take k := by
  unfold cutL
  rw [HT.sIx_none, HT.sIx_nat, List.drop_zero, Nat.sub_zero]
  by_cases h : k ≤ ds.length
  · rw [Nat.min_eq_left h]
  · rw [Nat.min_eq_right (by omega), List.take_of_length_le (Nat.le_refl _), List.take_of_length_le (by omega)]
theorem cutL_from {α : Type} (ds : List α) (k : Nat) : cutL ds (some (k : Int)) none = ds.drop k := by
  unfold cutL
  rw [HT.sIx_none, HT.sIx_nat]
  by_cases h : k ≤ ds.length
  · rw [Nat.min_eq_left h, List.take_of_length_le (by rw [List.length_drop]; exact Nat.le_refl _)]
  · rw [Nat.min_eq_right (by omega), Nat.sub_self, List.take_zero, List.drop_eq_nil_of_le (by omega)]
theorem cutL_from1 {α : Type} (ds : List α) (k : Nat) : cutL ds (some ((k : Int) + 1)) none = ds.drop (k + 1) := cutL_from ds (k + 1)
theorem cutL_last {α : Type} (ds : List α) : cutL ds none (some (-1)) = ds.dropLast := by
  unfold cutL
  rw [HT.sIx_none, List.drop_zero, Nat.sub_zero]
  have e : HT.sIx ds.length ds.length (some (-1)) = ds.length - 1 := by
    have := HT.clip_eq (-1) ds.length ds.length
    rw [if_pos (by decide)] at this
    omega
  rw [e, ← List.dropLast_eq_take]
/-- one of a written list -/
theorem pick (l : List PyData) (c : Int) (m : Int) (hm : m = l.length) (h0 : 0 < m) : ∃ d, d ∈ l ∧ dIx (.list l) (.int (c % m)) = .ok d := by
  have h1 : 0 ≤ c % m := Int.emod_nonneg _ (by omega)
  have h2 : c % m < m := Int.emod_lt_of_pos _ h0
  have h3 := atI_of (xs := l) h1 (by omega)
  exact ⟨_, List.getElem_mem _, dIx_l _ _ h3⟩
theorem bAll_map {α : Type} (p : α → Bool) (ds : List α) : bAll [.list (ds.map fun d => PyData.bool (p d))] = .ok (.bool (ds.all p)) := by
  have e : (ds.map fun d => PyData.bool (p d)) = (ds.map p).map PyData.bool := by rw [List.map_map]; rfl
  unfold bAll
  rw [e]
  show (match blsD ((ds.map p).map PyData.bool) with
    | some ks => O.ok (PyData.bool (ks.all id))
    | none => .bad) = _
  rw [blsD_map]
  show O.ok (PyData.bool ((ds.map p).all id)) = _
  rw [List.all_map]
  rfl
theorem nat_of {c m : Int} (h : 0 < m) : ∃ j : Nat, c % m = j ∧ (j : Int) < m := by
  have h1 : 0 ≤ c % m := Int.emod_nonneg _ (by omega)
  exact ⟨(c % m).toNat, by omega, by have := Int.emod_lt_of_pos c h; omega⟩
end Fn

set_option Elab.async false
set_option linter.all false
set_option maxRecDepth 100000
/-! zip over a tuple and a list (and any other two of these). b: a list, else a tuple. -/
namespace FnZ
open PySem PySem.Spec PyProof.Rows L2
def Sq (b : Bool) (K : PySem.W.Frag) (H : Hp) (a : Addr) (xs : List V) : Prop := match b with
  | true => SqL K H a xs
  | false => SqT K H a xs
def Its (b : Bool) (h : Heap) (a : Addr) (its : Array Value) : Prop := match b with
  | true => h.IsList a its
  | false => h.IsTuple a its
def At (b : Bool) (h : Heap) (it a : Addr) (i : Nat) : Prop := match b with
  | true => h.IsListIter it a i
  | false => h.IsTupleIter it a i
def objI (b : Bool) (a : Addr) : Obj := match b with
  | true => { cls := .type "list_iterator", data := .fields #[.ref a, .int 0 0] }
  | false => { cls := .type "tuple_iterator", data := .fields #[.ref a, .int 0 0] }
theorem begins (b : Bool) (a : Addr) (its : Array Value) : Begins (.ref a) (objI b a) fun h => Its b h a its := by
  cases b with
  | true => exact begins_list a its
  | false => exact begins_tuple a its
theorem draws (b : Bool) {P : Program} {w : World} {A : Around} (hh : A.handled = none) (it a : Addr) (hne : a ≠ it) (its : Array Value) :
    Draws P w A it [it, a] its.size (fun i v => its[i]? = some v) (fun i h => At b h it a i ∧ Its b h a its) := by
  cases b with
  | true => exact Draws.list hh it a hne its
  | false => exact Draws.tuple hh it a hne its
theorem at_new (b : Bool) {h : Heap} {it a : Addr} (e : h.get? it = some (objI b a)) : At b h it a 0 := by
  cases b with
  | true => exact ⟨_, e, rfl, rfl⟩
  | false => exact ⟨_, e, rfl, rfl⟩
theorem At.there {b : Bool} {h : Heap} {it a : Addr} {i : Nat} (t : At b h it a i) : ∃ o, h.get? it = some o ∧ ∀ v, o.data ≠ .cell v := by
  cases b with
  | true =>
    obtain ⟨o, e, _, d⟩ := t
    exact ⟨o, e, fun v q => by rw [d] at q; cases q⟩
  | false =>
    obtain ⟨o, e, _, d⟩ := t
    exact ⟨o, e, fun v q => by rw [d] at q; cases q⟩
theorem At.moved {b : Bool} {h h' : Heap} {it a : Addr} {i : Nat} (t : At b h it a i) (k : ∀ o, h.get? it = some o → h'.get? it = some o) : At b h' it a i := by
  cases b with
  | true => exact Heap.IsListIter.at t k
  | false => exact Heap.IsTupleIter.at t k
section
variable {X : Cx} {pins : List (Addr × Obj)} {s : Shared} {σ : L2.St} {H : Hp} {a : Addr} {xs ys : List V}
theorem vals (b : Bool) (I : Inv X pins σ H s) (h : Sq b X.K H a xs) : ∃ its : List Value, Vals xs its ∧ Its b s.heap a its.toArray := by
  cases b with
  | true =>
    obtain ⟨its, rv, p, _⟩ := I.list h
    exact ⟨its, rv, p.isList⟩
  | false =>
    obtain ⟨its, rv, p, _⟩ := I.tuple h
    exact ⟨its, rv, p⟩
theorem same (b : Bool) (I : Inv X pins σ H s) (h : Sq b X.K H a xs) (h' : Sq b X.K H a ys) : xs = ys := by
  cases b with
  | true => exact I.list_inj h h'
  | false => exact I.tuple_inj h h'
theorem Its.lt {b : Bool} {h : Heap} {its : Array Value} (p : Its b h a its) : a < h.objs.size := by
  cases b with
  | true =>
    obtain ⟨o, e, _⟩ := p
    exact Heap.lt_size e
  | false =>
    obtain ⟨o, e, _⟩ := p
    exact Heap.lt_size e
end
/-- the sequences at a and c as they stand at each turn, in new pairs -/
def Itm (K : PySem.W.Frag) (b1 b2 : Bool) (a c : Addr) : It where
  go := fun i H => ∃ (xs ys : List V) (x y : V), Sq b1 K H a xs ∧ Sq b2 K H c ys ∧ xs[i]? = some x ∧ ys[i]? = some y
  yld := fun i H v H' => ∃ T x y, v = .ref T ∧ H T = none ∧ H' = upd H T (.tup [x, y]) ∧ (∀ xs, Sq b1 K H a xs → xs[i]? = some x) ∧ ∀ ys, Sq b2 K H c ys → ys[i]? = some y
  stop := fun i H => ∃ xs ys : List V, Sq b1 K H a xs ∧ Sq b2 K H c ys ∧ i ≤ xs.length ∧ i ≤ ys.length ∧ (xs.length = i ∨ ys.length = i)
theorem apart {z TI TO i1 i2 a c : Addr} (D : ZipApart z TI TO i1 i2 a c) : ZipSep2 z TI TO i1 i2 [i1, a] [i2, c] where
  TIz := D.TIz
  TOz := D.TOz
  TITO := D.TITO
  TIi1 := D.TIi1
  mem1 := List.mem_cons_self
  zf1 := by simp [D.i1z.symm, D.l1z.symm]
  Tf1 := by simp [D.TOi1, D.l1TO.symm]
  TIi2 := D.TIi2
  mem2 := List.mem_cons_self
  zf2 := by simp [D.i2z.symm, D.l2z.symm]
  Tf2 := by simp [D.TOi2, D.l2TO.symm]
  sep1_2 := by simp [D.i12, D.l2i1.symm]
  sep2_1 := by simp [D.i12.symm, D.l1i2.symm]
theorem turnM {P : Program} {w : World} {K : PySem.W.Frag} (b1 b2 : Bool) {elts : List Expr} {kk : Nat} {tpos : Pos} {a c z TI TO i1 i2 : Addr} (D : ZipApart z TI TO i1 i2 a c) :
    Turn P w K (.Tuple elts kk tpos) (Itm K b1 b2 a c) [z, TI, TO, i1, i2] z (fun i h => IsZip h z TI TO .none ∧ IsPair h TI (.ref i1) (.ref i2) ∧ (∃ x y, IsPair h TO x y) ∧ At b1 h i1 a i ∧ At b2 h i2 c i) where
  mem := List.mem_cons_self
  obj := fun i h st q hq => by
    obtain ⟨hz, hTI, ⟨x, y, hTO⟩, t1, t2⟩ := st
    simp only [List.mem_cons, List.not_mem_nil, or_false] at hq
    rcases hq with rfl | rfl | rfl | rfl | rfl
    · exact ⟨_, hz, fun v => nofun⟩
    · exact ⟨_, hTI, fun v => nofun⟩
    · exact ⟨_, hTO, fun v => nofun⟩
    · exact t1.there
    · exact t2.there
  keep := fun i h h' st k => by
    obtain ⟨hz, hTI, ⟨x, y, hTO⟩, t1, t2⟩ := st
    refine ⟨k z (by simp) _ hz, k TI (by simp) _ hTI, ⟨x, y, k TO (by simp) _ hTO⟩, t1.moved (k i1 (by simp)), t2.moved (k i2 (by simp))⟩
  item := by
    intro X hP hw hK hc i pins s σ H E I hf st hg
    subst hP hw hK
    obtain ⟨hz, hTI, ⟨x0, y0, hTO⟩, t1, t2⟩ := st
    obtain ⟨xs, ys, x, y, sx, sy, hx, hy⟩ := hg
    obtain ⟨us, rx, px⟩ := vals b1 I sx
    obtain ⟨vs, ry, py⟩ := vals b2 I sy
    obtain ⟨u, hu, ru⟩ := rx.get hx
    obtain ⟨v, hv, rv⟩ := ry.get hy
    have hd := I.ok.hd hc
    have old : ∀ q ∈ [z, TI, TO, i1, i2], q < s.heap.objs.size := fun q hq => by
      simp only [List.mem_cons, List.not_mem_nil, or_false] at hq
      rcases hq with rfl | rfl | rfl | rfl | rfl
      · exact Heap.lt_size hz
      · exact Heap.lt_size hTI
      · exact Heap.lt_size hTO
      · exact Heap.lt_size t1.there.choose_spec.1
      · exact Heap.lt_size t2.there.choose_spec.1
    have zs : s.heap.objs.size ≠ z := Nat.ne_of_gt (old z (by simp))
    have lu : i < us.toArray.size := by
      rw [List.size_toArray]
      exact (List.getElem?_eq_some_iff.mp hu).1
    have lv : i < vs.toArray.size := by
      rw [List.size_toArray]
      exact (List.getElem?_eq_some_iff.mp hv).1
    refine wpAny_pyNext_zipD2_item (apart D) (draws b1 (show X.A.in1.handled = none from hd) i1 a D.l1i1 us.toArray) (draws b2 (show X.A.in1.handled = none from hd) i2 c D.l2i2 vs.toArray) hz hTI hTO ⟨t1, px⟩ ⟨t2, py⟩ lu lv ?_
    intro u' v' h1 tk eu ev z1 TO1 q1 q2 T1 _ k1
    obtain rfl : u = u' := by
      have eu : us.toArray[i]? = some u' := eu
      rw [List.getElem?_toArray, hu] at eu
      exact Option.some.inj eu
    obtain rfl : v = v' := by
      have ev : vs.toArray[i]? = some v' := ev
      rw [List.getElem?_toArray, hv] at ev
      exact Option.some.inj ev
    refine ⟨_, rfl, wpAny_letOwnedTupleGo_zip (s := { s with heap := h1, toks := tk }) z1 fun h2 z2 sb => ?_⟩
    have T2 : h2.get? s.heap.objs.size = some { cls := .type "tuple", data := .seq #[u, v] } := (sb.2 _ zs).trans T1
    have fresh : ObjOk X.prog X.w (upd H s.heap.objs.size (.tup [x, y])) h2 s.heap.objs.size (.tup [x, y]) := ⟨show 2 ≤ sizeLine by decide, [u, v], .cons ru (.cons rv .nil), _, T2, rfl, _, rfl⟩
    have I2 : Inv X pins σ (upd H s.heap.objs.size (.tup [x, y])) { s with heap := h2, toks := tk } := I.turnedNew (t' := tk) (ch := [z, TI, TO, i1, i2]) (fun q o hq e => by
      simp only [List.mem_cons, List.not_mem_nil, or_false, not_or] at hq
      obtain ⟨n1, n2, n3, n4, n5⟩ := hq
      exact (sb.2 q n1).trans (k1 q o n1 n3 n4 n5 e)) hf (Nat.le_refl _) fresh
    refine ⟨V.ref s.heap.objs.size, _, I2, rfl, ⟨_, x, y, rfl, I.hok.fresh (Nat.le_refl _), rfl, fun l hl => ?_, fun l hl => ?_⟩, ⟨z2, ?_, ⟨u, v, ?_⟩, ?_, ?_⟩, fun q hq => ?_⟩
    · rw [same b1 I hl sx]; exact hx
    · rw [same b2 I hl sy]; exact hy
    · exact (sb.2 TI D.TIz).trans (k1 TI _ D.TIz D.TITO D.TIi1 D.TIi2 hTI)
    · exact (sb.2 TO D.TOz).trans TO1
    · exact q1.1.moved fun o e => (sb.2 i1 D.i1z).trans e
    · exact q2.1.moved fun o e => (sb.2 i2 D.i2z).trans e
    · rw [upd_ne (Nat.ne_of_lt (old q hq))]
      exact (hf q hq).1
  done := by
    intro X hP hw hK hc i pins s σ H E I hf st hg
    subst hP hw hK
    obtain ⟨hz, hTI, ⟨x0, y0, hTO⟩, t1, t2⟩ := st
    obtain ⟨xs, ys, sx, sy, l1, l2, hend⟩ := hg
    obtain ⟨us, rx, px⟩ := vals b1 I sx
    obtain ⟨vs, ry, py⟩ := vals b2 I sy
    have hd := I.ok.hd hc
    have n1 := rx.length
    have n2 := ry.length
    refine wpAny_pyNext_zipD2_end (apart D) (draws b1 (show X.A.in1.handled = none from hd) i1 a D.l1i1 us.toArray) (draws b2 (show X.A.in1.handled = none from hd) i2 c D.l2i2 vs.toArray) hz hTI hTO ⟨t1, px⟩ ⟨t2, py⟩ (by simp; omega) (by simp; omega) (by simp; omega) ?_
    intro h1 tk k1
    refine ⟨rfl, I.turnedL (t' := tk) (ch := [z, TI, TO, i1, i2]) (fun q o hq e => ?_) hf⟩
    simp only [List.mem_cons, List.not_mem_nil, or_false, not_or] at hq
    obtain ⟨n1, n2, n3, n4, n5⟩ := hq
    exact k1 q o n1 n3 n4 n5 e
  self := fun A i s Q E st h => wpAny_pyIter_zip st.1 h
/-- zip(e, e2): each a list or a tuple -/
def iZipM (K : PySem.W.Frag) (ta : TA) : TI := fun σ H R => ta σ H fun vs H1 => ∃ b1 b2 a c xs ys, vs = [.ref a, .ref c] ∧ Sq b1 K H1 a xs ∧ Sq b2 K H1 c ys ∧ R (Itm K b1 b2 a c) H1
theorem pi_zipM {X : Cx} {e e2 : Expr} {ta : TA} {p pos tpos : Pos} {elts : List Expr} {kk : Nat} (hg : Gl X "zip") (hm : X.mg "zip" = none) (ha : PA X [e, e2] ta)
    (h1 : starEach [e, e2] X.env = (false, eval e X.env) :: starEach [e2] X.env := by rfl) (h2 : (backTo pos (starEach [e2] X.env)).any (·.1) = false := by rfl) :
    PI X (.Tuple elts kk tpos) (.Call (.Name "zip" p) [e, e2] [] pos) (iZipM X.K ta) where
  run := fun pins s σ H R I h => by
    refine Call_ (ld_blt I hg hm PyProof.Rows.boot_zip (PyProof.Rows.callWith_type1 (thn (ha.run pos pins s σ H _ I h) fun us s1 hq => ?_) h1 h2))
    obtain ⟨vs, H1, I1, r1, b1, b2, a, c, xs, ys, rfl, sx, sy, q⟩ := hq
    match us, r1 with
    | [_, _], .cons r (.cons r' .nil) =>
      cases r
      cases r'
      obtain ⟨us, rx, px⟩ := vals b1 I1 sx
      obtain ⟨vs, ry, py⟩ := vals b2 I1 sy
      refine zip_begins2 (begins b1 a us.toArray) (begins b2 c vs.toArray) px py fun h' z1 TI1 TO1 g1 g2 hsz hk => wpAny_pyIter_zip z1 ?_
      refine ⟨s1.heap.objs.size + 4, [s1.heap.objs.size + 4, s1.heap.objs.size + 2, s1.heap.objs.size + 3, s1.heap.objs.size, s1.heap.objs.size + 1], _, _, H1, rfl, I1.kept (t' := s1.toks) hk, turnM b1 b2 (PySem.W.ktu_apart s1.heap.objs.size a c px.lt py.lt), ⟨z1, TI1, ⟨_, _, TO1⟩, at_new b1 g1, at_new b2 g2⟩, fun q hq => ?_, q⟩
      have hle : s1.heap.objs.size ≤ q := by
        simp only [List.mem_cons, List.not_mem_nil, or_false] at hq
        rcases hq with rfl | rfl | rfl | rfl | rfl
        all_goals first | exact Nat.le_refl _ | exact Nat.le_add_right _ _
      exact I1.fpOk hle (I1.hok.fresh hle)
end FnZ

set_option Elab.async false
set_option linter.all false
set_option maxRecDepth 100000
/-! zip of lists and tuples, by the data. -/
namespace Fn
open PySem PySem.Spec L2
section
variable {K : PySem.W.Frag} {c : Ct} {own : List Nat} {F H : Hp}
def zipJ : List PyData → O (List PyData)
  | [.list ds, .list es] => .ok (zipD ds es)
  | [.tuple ds, .list es] => .ok (zipD ds es)
  | [.list ds, .tuple es] => .ok (zipD ds es)
  | [.tuple ds, .tuple es] => .ok (zipD ds es)
  | _ => .bad
def gZipM (g : Rho → O (List PyData)) : Rho → O (List PyData) := fun ρ => (g ρ).bind zipJ
theorem sq_same {b : Bool} {a : Addr} {xs : List V} (s : Same F H) (h : FnZ.Sq b K F a xs) : FnZ.Sq b K H a xs := by
  cases b with
  | true => exact s.seq h
  | false => exact Same.tup s h
theorem rep_sq {v : V} {d : PyData} {ds : List PyData} (r : Rep K c.cls F v d) (h : d = .list ds ∨ d = .tuple ds) : ∃ b a xs, v = .ref a ∧ FnZ.Sq b K F a xs ∧ RepL K c.cls F xs ds := by
  rcases h with rfl | rfl
  · cases r with
    | ls h r => exact ⟨true, _, _, rfl, SqL.of h, r⟩
  · cases r with
    | tp h r => exact ⟨false, _, _, rfl, h, r⟩
theorem fi_zipM {t : TA} {g : Rho → O (List PyData)} (h : FA K c own true t g) : FI K c own (FnZ.iZipM K t) (gZipM g) := fun σ H F ρ R S q => by
  refine h σ H F ρ _ S (OPost.imp (fun d q v H1 F1 e r => ?_) (fun _ q => q) (OPost.bind q))
  have key : ∀ d1 d2 ds es, (d1 = PyData.list ds ∨ d1 = .tuple ds) → (d2 = PyData.list es ∨ d2 = .tuple es) → RepL K c.cls F1 v [d1, d2] →
      (∀ J H' F', Ext F H F' H' → ItOk K c J F' (zipD ds es) → R J H') → ∃ b1 b2 a c xs ys, v = [.ref a, .ref c] ∧ FnZ.Sq b1 K H1 a xs ∧ FnZ.Sq b2 K H1 c ys ∧ R (FnZ.Itm K b1 b2 a c) H1 := fun d1 d2 ds es k1 k2 r q => by
    cases r with
    | cons ra t0 =>
      cases t0 with
      | cons rb t1 =>
        cases t1
        obtain ⟨b1, a1, xs, rfl, h1, r1⟩ := rep_sq ra k1
        obtain ⟨b2, a2, ys, rfl, h2, r2⟩ := rep_sq rb k2
        refine ⟨b1, b2, a1, a2, xs, ys, rfl, sq_same e.s h1, sq_same e.s h2, q _ _ _ e fun F2 H2 s1 s2 i => ?_⟩
        have q1 := sq_same s2 (sq_same s1 h1)
        have q2 := sq_same s2 (sq_same s1 h2)
        have le : (zipD ds es).length = min xs.length ys.length := by
          unfold zipD
          rw [List.length_zipWith, r1.length, r2.length]
        refine ⟨fun hi => ?_, fun hi => ⟨xs, ys, q1, q2, by omega, by omega, by omega⟩, fun x H' d hd y => ?_⟩
        · rw [le] at hi
          have hx : i < xs.length := by omega
          have hy : i < ys.length := by omega
          exact ⟨xs, ys, xs[i], ys[i], q1, q2, List.getElem?_eq_getElem hx, List.getElem?_eq_getElem hy⟩
        · obtain ⟨T, u, u', rfl, hT, rfl, y1, y2⟩ := y
          unfold zipD at hd
          rw [List.getElem?_zipWith] at hd
          cases hq : ds[i]? with
          | none => rw [hq] at hd; cases hd
          | some d0 =>
            cases hq' : es[i]? with
            | none => rw [hq, hq'] at hd; cases hd
            | some e0 =>
              rw [hq, hq'] at hd
              cases hd
              obtain ⟨w, w1, w2⟩ := r1.get hq
              obtain ⟨z, z1, z2⟩ := r2.get hq'
              have e1 := y1 xs q1
              rw [w1] at e1
              cases e1
              have e2 := y2 ys q2
              rw [z1] at e2
              cases e2
              exact ⟨_, Ext.new s2 hT, .tp (SqT.of upd_same) (.cons ((w2.mono s1).mono (same_upd (s2.free hT))) (.cons ((z2.mono s1).mono (same_upd (s2.free hT))) .nil))⟩
  unfold zipJ at q
  split at q
  · exact key _ _ _ _ (.inl rfl) (.inl rfl) r q
  · exact key _ _ _ _ (.inr rfl) (.inl rfl) r q
  · exact key _ _ _ _ (.inl rfl) (.inr rfl) r q
  · exact key _ _ _ _ (.inr rfl) (.inr rfl) r q
  · exact q.elim
end
section
variable (ρ : Rho) (gs : Rho → O (List PyData)) (ds es : List PyData)
@[simp] theorem gZipM_ap : gZipM gs ρ = (gs ρ).bind zipJ := rfl
@[simp] theorem zipJ_ll : zipJ [.list ds, .list es] = .ok (zipD ds es) := rfl
@[simp] theorem zipJ_tl : zipJ [.tuple ds, .list es] = .ok (zipD ds es) := rfl
@[simp] theorem zipJ_lt : zipJ [.list ds, .tuple es] = .ok (zipD ds es) := rfl
@[simp] theorem zipJ_tt : zipJ [.tuple ds, .tuple es] = .ok (zipD ds es) := rfl
end
end Fn

set_option Elab.async false
set_option linter.all false
set_option maxRecDepth 100000
/-! Lists of their own behind one list: what is handed in. -/
namespace Fn
open PySem PySem.Spec L2
section
variable {K : PySem.W.Frag} {cls : Nat → Addr} {c : Ct} {own : List Nat} {F H F' H' : Hp} {σ : L2.St} {ρ : Rho} {a p : Addr} {es : List PyData}
/-- a list of its own: at a in H, not in F; its items in F -/
def Own1 (K : PySem.W.Frag) (cls : Nat → Addr) (F H : Hp) (a : Addr) (es : List PyData) : Prop := ∃ ys, H a = some (.lst ys) ∧ F a = none ∧ RepL K cls F ys es
theorem Ext.stays {o : HO} (e : Ext F H F' H') (h1 : H a = some o) (h2 : F a = none) : F' a = none := by
  cases q : F' a with
  | none => rfl
  | some u =>
    rcases e.n a u q with z | z
    · rw [h2] at z; cases z
    · rw [h1] at z; cases z
theorem Own1.ext (o : Own1 K cls F H a es) (e : Ext F H F' H') : Own1 K cls F' H' a es := by
  obtain ⟨ys, h1, h2, h3⟩ := o
  exact ⟨ys, e.h _ _ h1, e.stays h1 h2, h3.mono e.f⟩
theorem Own1.upd {u : HO} (o : Own1 K cls F H a es) (hp : a ≠ p) : Own1 K cls F (L2.upd H p u) a es := by
  obtain ⟨ys, h1, h2, h3⟩ := o
  exact ⟨ys, by rw [upd_ne hp]; exact h1, h2, h3⟩
theorem Own1.ne (o : Own1 K cls F H a es) (hp : H p = none) : a ≠ p := by
  obtain ⟨ys, h1, h2, h3⟩ := o
  exact ne_of_none h1 hp
theorem paired_imp {α β : Type} {R R' : α → β → Prop} : ∀ {xs : List α} {ys : List β}, Paired R xs ys → (∀ x y, x ∈ xs → R x y → R' x y) → Paired R' xs ys
  | _, _, .nil, _ => .nil
  | _, _, .cons r t, h => .cons (h _ _ List.mem_cons_self r) (paired_imp t fun x y m => h x y (List.mem_cons_of_mem _ m))
theorem paired_len {α β : Type} {R : α → β → Prop} : ∀ {xs : List α} {ys : List β}, Paired R xs ys → xs.length = ys.length
  | _, _, .nil => rfl
  | _, _, .cons _ t => by rw [List.length_cons, List.length_cons, paired_len t]
theorem paired_get {α β : Type} {R : α → β → Prop} : ∀ {xs : List α} {ys : List β} {k : Nat} {x : α}, Paired R xs ys → xs[k]? = some x → ∃ y, ys[k]? = some y ∧ R x y
  | _, _, k, x, .nil, h => by cases h
  | _, _, 0, x, .cons r t, h => by cases h; exact ⟨_, rfl, r⟩
  | _, _, k + 1, x, .cons r t, h => paired_get (k := k) t h
theorem yes_rd {Q : Bool → Hp → Prop} (h : Q true H) : tYes σ H Q := h
theorem ifT {A B : Prop} (h : A) : if true = true then A else B := by
  rw [if_pos rfl]
  exact h
theorem rd_copies {i : Nat} {wi : TI} {gi : Rho → O (List PyData)} {Q : VK} (hi : FI K c own wi gi) (hio : own.contains i = false) (S : Sim K c.cls c.B own σ H F ρ) (hl : i < ρ.length) {ds : List PyData} {ess : List (List PyData)} (hg : gi ρ = .ok ds) (hn : ds.length ≤ 1000)
    (hd : Paired (fun d es => d = PyData.list es ∨ d = PyData.tuple es) ds ess)
    (q : ∀ p as H' F', Ext F H F' H' → H p = none → F' p = none → (∀ a ∈ as, H a = none) → as.Nodup → p ∉ as → H' p = some (.lst (as.map V.ref)) → Paired (Own1 K c.cls F' H') as ess → Q (.ref p) H') :
    tLc wi (gName i) tYes (tCB (rListOf K) (tCons (tVar i) tNil)) [i] σ H Q := by
  refine hi σ H F ρ _ S ?_
  rw [hg]
  intro J H1 F1 e1 it A hA
  have S1 := S.ext e1
  have hel := paired_len hd
  refine ⟨fun k m H2 => m = ds.length - k ∧ k ≤ ds.length ∧ ∃ F2 as, Ext F1 H1 F2 H2 ∧ H2 A = some (.lst (as.map V.ref)) ∧ F2 A = none ∧ Paired (Own1 K c.cls F2 H2) as (ess.take k) ∧ as.Nodup ∧ A ∉ as ∧ (∀ a ∈ as, H1 a = none) ∧ as.length = k,
    ⟨ds.length, by omega, Nat.zero_le _, F1, [], Ext.newO e1.s hA, upd_same, e1.s.free hA, by rw [List.take_zero]; exact .nil, List.nodup_nil, List.not_mem_nil, fun _ h => absurd h List.not_mem_nil, rfl⟩, ?_⟩
  rintro k m H2 ⟨rfl, hle, F2, as, e2, hD, hF, hp, hnd, hna, hnew, hlen⟩
  obtain ⟨i1, i2, i3⟩ := it F2 H2 e2.f e2.s k
  by_cases hlt : k < ds.length
  · refine .inr ⟨i1 hlt, fun H3 => ∃ F3 as', Ext F1 H1 F3 H3 ∧ H3 A = some (.lst (as'.map V.ref)) ∧ F3 A = none ∧ Paired (Own1 K c.cls F3 H3) as' (ess.take (k + 1)) ∧ as'.Nodup ∧ A ∉ as' ∧ (∀ a ∈ as', H1 a = none) ∧ as'.length = k + 1,
      fun H3 z => ⟨ds.length - (k + 1), by omega, rfl, hlt, z⟩, fun x H3 y => ?_⟩
    obtain ⟨F3, e3, r3⟩ := i3 x H3 ds[k] (List.getElem?_eq_getElem hlt) y
    have hk : k < ess.length := by omega
    obtain ⟨es, he, hdk⟩ := paired_get hd (List.getElem?_eq_getElem hlt)
    have e13 := e2.trans e3
    have S3 := (S1.ext e13).wipe [i]
    have hlw : i < (wipeR ρ [i]).length := by
      show i < (ρ.set i none).length
      rw [List.length_set]
      exact hl
    refine fc_name (K := K) (c := c.noW) (own := own) (i := i) (vs := [i]) hio (by simp) x ds[k] (L2.wipe σ [i]) H3 F3 (wipeR ρ [i]) _ S3 r3 ?_
    intro σ4 w4 S4
    refine ⟨w4.trans (wipe_wipe σ [i]), ?_⟩
    refine yes_rd (ifT ?_)
    obtain ⟨v, hv, rv⟩ := S4.fro i ds[k] (fun z => by rw [List.contains_iff_mem.mpr z] at hio; cases hio) (by rw [List.getElem?_set]; simp [hl])
    obtain ⟨b, ys, rfl, hs, ry⟩ : ∃ b ys, v = .ref b ∧ (SqL K H3 b ys ∨ SqT K H3 b ys) ∧ RepL K c.cls F3 ys es := by
      rcases hdk with z | z <;> rw [z] at rv
      · cases rv with
        | ls h r => exact ⟨_, _, rfl, .inl (SqL.of (e13.s _ _ h)), r⟩
      · cases rv with
        | tp h r => exact ⟨_, _, rfl, .inr (Same.tup e13.s h), r⟩
    refine ⟨_, hv, b, ys, rfl, hs, fun l nl => ?_⟩
    have hD3 := e3.h _ _ hD
    have nA : A ≠ l := ne_of_none hD3 nl
    have f3A : F3 A = none := e3.stays hD hF
    have l1 : H1 l = none := e13.h.free nl
    refine ⟨as.map V.ref, by rw [upd_ne nA]; exact hD3, by rw [List.length_map, hlen]; exact lt_lim (lim_gt (by omega)), F3, as ++ [l], (e13.updNew l1 (e13.s.free nl)).updNew hA f3A, by rw [upd_same, List.map_append]; rfl, f3A, ?_, ?_, ?_, ?_, by rw [List.length_append, hlen]; rfl⟩
    · have ht : ess.take (k + 1) = ess.take k ++ [es] := by
        rw [List.take_add_one, he]
        rfl
      rw [ht]
      refine Paired.snoc (paired_imp hp fun b' es' hm o => ?_) ⟨ys, by rw [upd_ne nA.symm]; exact upd_same, e13.s.free nl, ry⟩
      have o3 := o.ext e3
      refine (o3.upd (o3.ne nl)).upd fun z => ?_
      subst z
      exact hna hm
    · rw [List.nodup_append]
      refine ⟨hnd, by simp, fun x hx y hy => ?_⟩
      rw [List.mem_singleton.mp hy]
      intro z
      subst z
      obtain ⟨j, hj⟩ := List.getElem?_of_mem hx
      obtain ⟨_, _, o⟩ := paired_get hp hj
      exact (o.ext e3).ne nl rfl
    · intro z
      rcases List.mem_append.mp z with z | z
      · exact hna z
      · exact nA (List.mem_singleton.mp z)
    · intro b' hb
      rcases List.mem_append.mp hb with z | z
      · exact hnew b' z
      · rw [List.mem_singleton.mp z]; exact l1
  · have : k = ds.length := by omega
    subst this
    refine .inl ⟨i2 rfl, q A as H2 F2 (e1.trans e2) (e1.h.free hA) hF (fun b hb => e1.h.free (hnew b hb)) hnd hna hD ?_⟩
    rw [hel, List.take_length] at hp
    exact hp
end
/-! ### data that may be compared -/
def Nice (n : Nat) (d : PyData) : Prop := plainD d = true ∧ d.canLay0 = true ∧ d.depth ≤ n
theorem Nice.up {n m : Nat} {d : PyData} (h : Nice n d) (hm : n ≤ m) : Nice m d := ⟨h.1, h.2.1, Nat.le_trans h.2.2 hm⟩
theorem nice_int (i : Int) : Nice 0 (.int i) := ⟨rfl, by simp [PyData.canLay0], by simp [PyData.depth]⟩
theorem nice_str {x : Str} (h : PyData.canLay0 (.str x) = true) : Nice 0 (.str x) := ⟨rfl, h, by simp [PyData.depth]⟩
theorem nice_all {n : Nat} : ∀ {ds : List PyData}, (∀ d ∈ ds, Nice n d) → plainAll ds = true ∧ PyData.canLayAll0 ds = true ∧ PyData.depthAll ds ≤ n
  | [], _ => ⟨rfl, by simp [PyData.canLayAll0], by simp [PyData.depthAll]⟩
  | d :: ds, h => by
    obtain ⟨h1, h2, h3⟩ := h d List.mem_cons_self
    obtain ⟨k1, k2, k3⟩ := nice_all fun e he => h e (List.mem_cons_of_mem _ he)
    refine ⟨?_, ?_, ?_⟩
    · unfold plainAll; rw [h1, k1]; rfl
    · unfold PyData.canLayAll0; rw [h2, k2]; rfl
    · unfold PyData.depthAll; exact Nat.max_le.mpr ⟨h3, k3⟩
theorem nice_list {n : Nat} {ds : List PyData} (h : ∀ d ∈ ds, Nice n d) : Nice (n + 1) (.list ds) := by
  obtain ⟨h1, h2, h3⟩ := nice_all h
  refine ⟨?_, ?_, ?_⟩
  · unfold plainD; exact h1
  · unfold PyData.canLay0; exact h2
  · unfold PyData.depth; exact Nat.succ_le_succ h3
theorem nice_tup {n : Nat} {ds : List PyData} (h : ∀ d ∈ ds, Nice n d) : Nice (n + 1) (.tuple ds) := by
  obtain ⟨h1, h2, h3⟩ := nice_all h
  refine ⟨?_, ?_, ?_⟩
  · unfold plainD; exact h1
  · unfold PyData.canLay0; exact h2
  · unfold PyData.depth; exact Nat.succ_le_succ h3
theorem nice_mapI {ks : List Int} : ∀ d ∈ ks.map PyData.int, Nice 0 d := fun d h => by
  obtain ⟨k, _, rfl⟩ := List.mem_map.mp h
  exact nice_int k
theorem Nice.okEq {n : Nat} {d : PyData} (h : Nice n d) (hn : n ≤ 64) : okEq d = true := by
  unfold Fn.okEq SeqAt.shaped
  rw [h.1, h.2.1, decide_eq_true (Nat.le_trans h.2.2 hn)]
  rfl
theorem dEq_self {n : Nat} {d : PyData} (h : Nice n d) (hn : n ≤ 64) : dEq d d = .ok (.bool true) := by
  unfold dEq
  rw [h.okEq hn, SeqAt.eqv_refl d h.2.1, Bool.and_self, Bool.or_true, if_pos rfl]
  try rfl
theorem dNe_self {n : Nat} {d : PyData} (h : Nice n d) (hn : n ≤ 64) : dNe d d = .ok (.bool false) := by
  unfold dNe
  rw [h.okEq hn, SeqAt.eqv_refl d h.2.1, Bool.and_self, Bool.or_true, if_pos rfl]
  try rfl
/-! ### another view of a state -/
section
variable {K : PySem.W.Frag} {cls : Nat → Addr} {B : Hp × Hp × List (Addr × Str)} {F H F' H' : Hp} {σ : L2.St} {ρ ρ' : Rho} {a : Addr} {o : HO}
theorem Sim.stray (S : Sim K cls B [] σ H F ρ) (h1 : F a = none) (h2 : B.1 a = none) (hT : B.2.2 = []) : Sim K cls B [] σ (L2.upd H a o) F ρ where
  tb := fun p hp => absurd hp (by rw [hT]; exact List.not_mem_nil)
  ft := fun p hp => absurd hp (by rw [hT]; exact List.not_mem_nil)
  b := S.b.updNew h2 h1
  len := S.len
  fro := S.fro
  ow := fun i d hi => absurd hi List.not_mem_nil
  sep := fun i j d e a hi => absurd hi List.not_mem_nil
theorem Sim.top {H0 : Hp} (S : Sim K cls (H0, H0, []) [] σ H F ρ) (hl : ρ'.length = ρ.length) (h : ∀ (i : Nat) (d : PyData), ρ'[i]? = some (some d) → ∃ v : V, σ[i]? = some (some v) ∧ Rep K cls H v d) : Sim K cls (H0, H0, []) [] σ H H ρ' where
  tb := fun p hp => absurd hp List.not_mem_nil
  ft := fun p hp => absurd hp List.not_mem_nil
  b := ⟨S.b.h, S.b.h, Same.refl _, fun b u e => by
    cases q : H0 b with
    | none => exact .inr q
    | some u' =>
      have := S.b.h b u' q
      rw [e] at this
      cases this
      exact .inl q⟩
  len := by rw [S.len, hl]
  fro := fun i d _ e => h i d e
  ow := fun i d hi => absurd hi List.not_mem_nil
  sep := fun i j d e a hi => absurd hi List.not_mem_nil
theorem Sim.grown (S : Sim K cls B [] σ H F ρ) (h : Same H H') : Sim K cls B [] σ H' F ρ := S.ext ⟨Same.refl _, h, S.b.s.trans h, fun _ _ z => .inl z⟩
theorem Sim.setN (S : Sim K cls B [] σ H F ρ) (i : Nat) {v : V} {d : PyData} (r : Rep K cls F v d) : Sim K cls B [] (σ.set i (some v)) H F (ρ.set i (some d)) := S.set i r
end
theorem nx_rd {f : L2.St → Hp → Prop} {r : VK} {b k : L2.St → Hp → Prop} {σ : L2.St} {H : Hp} (h : f σ H) : Ends.nx ⟨f, r, b, k⟩ σ H := h
theorem seq_rd {t u : TS} {D : Ends} {σ : L2.St} {H : Hp} (h : t { D with nx := u D } σ H) : tSeq t u D σ H := h
theorem asg_rd {t : TE} {i : Nat} {D : Ends} {σ : L2.St} {H : Hp} (h : t σ H fun x H1 => D.nx (σ.set i (some x)) H1) : tAsg t (gName i) D σ H := h
theorem next_rd {D : Ends} {σ : L2.St} {H : Hp} (h : D.nx σ H) : tNext D σ H := h
theorem if_rd {c : TT} {t u : TS} {D : Ends} {σ : L2.St} {H : Hp} (h : c σ H fun b H1 => if b = true then t D σ H1 else u D σ H1) : tIfS c t u D σ H := h
theorem forL_rd {K : PySem.W.Frag} {t : TE} {g : TG} {tb : TS} {D : Ends} {σ : L2.St} {H : Hp} (h : tFor (iList K t) g tb D σ H) : tFor (iAny K t) g tb D σ H := .inl h
end Fn

set_option Elab.async false
set_option linter.all false
set_option maxRecDepth 100000
/-! Defs that tell a new list; calls that are lent lists which change later. -/
namespace Fn
open PySem PySem.Spec L2
/-! ### lent lists -/
def over (L : List Addr) (H F : Hp) : Hp := fun a => if a ∈ L then H a else F a
def less (L : List Addr) (F F' : Hp) : Hp := fun a => if a ∈ L ∧ F a = none then none else F' a
/-! data without lists and objects -/
mutual
def noL : PyData → Bool
  | .none | .bool _ | .int _ | .str _ => true
  | .tuple ds => noLs ds
  | _ => false
def noLs : List PyData → Bool
  | [] => true
  | d :: ds => noL d && noLs ds
end
section
variable {K : PySem.W.Frag} {cls : Nat → Addr} {c : Ct} {own : List Nat} {b : Bool} {F H F' H' G : Hp}
theorem tup_but {a : Addr} {xs : List V} (h : SqT K F a xs) (k : ∀ a o, F a = some o → (∀ ys, o ≠ .lst ys) → G a = some o) : SqT K G a xs := by
  rcases h with (h | ⟨o, h⟩) | h
  · exact .inl (.inl (k _ _ h fun ys => nofun))
  · exact .inl (.inr ⟨o, k _ _ h fun ys => nofun⟩)
  · exact .inr h
mutual
theorem rep_but (k : ∀ a o, F a = some o → (∀ ys, o ≠ .lst ys) → G a = some o) : ∀ {v : V} {d : PyData}, Rep K cls F v d → noL d = true → Rep K cls G v d
  | _, _, .non, _ => .non
  | _, _, .bl b, _ => .bl b
  | _, _, .int i, _ => .int i
  | _, _, .str x, _ => .str x
  | _, _, .ls _ _, p => by unfold noL at p; cases p
  | _, _, .tp h r, p => .tp (tup_but h k) (repL_but k r (by unfold noL at p; exact p))
  | _, _, .ro _ _, p => by unfold noL at p; cases p
  | _, _, .ob _ _, p => by unfold noL at p; cases p
theorem repL_but (k : ∀ a o, F a = some o → (∀ ys, o ≠ .lst ys) → G a = some o) : ∀ {vs : List V} {ds : List PyData}, RepL K cls F vs ds → noLs ds = true → RepL K cls G vs ds
  | _, _, .nil, _ => .nil
  | _, _, .cons r t, p => by
    unfold noLs at p
    rw [Bool.and_eq_true] at p
    exact .cons (rep_but k r p.1) (repL_but k t p.2)
end
theorem over_up (s : Same F H) (L : List Addr) : Same F (over L H F) := fun a o e => by
  unfold over
  split
  · exact s a o e
  · exact e
theorem over_in (s : Same F H) (L : List Addr) : Same (over L H F) H := fun a o e => by
  unfold over at e
  split at e
  · exact e
  · exact s a o e
theorem over_mono (L L' : List Addr) (h : ∀ a ∈ L, a ∈ L') (s : Same F H) : Same (over L H F) (over L' H F) := fun a o e => by
  unfold over at e ⊢
  by_cases m : a ∈ L'
  · rw [if_pos m]
    split at e
    · exact e
    · exact s a o e
  · rw [if_neg m]
    rw [if_neg fun z => m (h a z)] at e
    exact e
/-- what is lent stands, as long as it is lent -/
theorem lent (s : Same F H) : ∀ {vs : List V} {ds : List PyData}, Paired (Rep1 K c F H) vs ds → ∃ L, (∀ a ∈ L, ∃ xs, H a = some (.lst xs)) ∧ RepL K c.cls (over L H F) vs ds
  | _, _, .nil => ⟨[], fun a h => absurd h List.not_mem_nil, .nil⟩
  | _, _, .cons r t => by
    obtain ⟨L, h1, h2⟩ := lent s t
    rcases r with r | ⟨a, xs, es, rfl, rfl, h3, h4⟩
    · exact ⟨L, h1, .cons (r.mono (over_up s L)) h2⟩
    · refine ⟨a :: L, fun a' hm => ?_, .cons (.ls (xs := xs) ?_ (h4.mono (over_up s _))) (h2.mono (over_mono L (a :: L) (fun a h => List.mem_cons_of_mem _ h) s))⟩
      · rcases List.mem_cons.mp hm with rfl | z
        · exact ⟨xs, h3⟩
        · exact h1 a' z
      · unfold over
        rw [if_pos List.mem_cons_self]
        exact h3
theorem less_ext {L : List Addr} (s : Same F H) (e : Ext (over L H F) H F' H') : Ext F H (less L F F') H' where
  f := fun a o h => by
    unfold less
    rw [if_neg fun z => by rw [h] at z; cases z.2]
    exact e.f a o (over_up s L a o h)
  h := e.h
  s := fun a o h => by
    unfold less at h
    split at h
    · cases h
    · exact e.s a o h
  n := fun a o h => by
    unfold less at h
    split at h
    · cases h
    · rename_i m
      rcases e.n a o h with z | z
      · unfold over at z
        split at z
        · rename_i hm
          cases q : F a with
          | none => exact absurd ⟨hm, q⟩ m
          | some u =>
            have := s a u q
            rw [z] at this
            cases this
            exact .inl rfl
        · exact .inl z
      · exact .inr z
theorem less_but {L : List Addr} (hL : ∀ a ∈ L, ∃ xs, H a = some (.lst xs)) (e : Ext (over L H F) H F' H') : ∀ a o, F' a = some o → (∀ ys, o ≠ .lst ys) → less L F F' a = some o := fun a o h n => by
  unfold less
  rw [if_neg fun z => ?_]
  · exact h
  · obtain ⟨xs, hx⟩ := hL a z.1
    have h1 := e.s a o h
    have h2 := e.h _ _ hx
    rw [h2] at h1
    cases h1
    exact n xs rfl
/-- a call that is lent lists: what it tells has no lists in it -/
def noLO : PyData → O PyData := fun d => if noL d = true then .ok d else .bad
def gFnT (n : Nat) (f : List PyData → O PyData) (g : Rho → O (List PyData)) : Rho → O PyData := fun ρ => (g ρ).bind fun ds => if ds.length = n then (f ds).bind noLO else .bad
theorem fe_callT {n : Nat} {f : List PyData → O PyData} {t : TA} {g : Rho → O (List PyData)} {W : WX} (hW : c.W = W) (h : FA K c own false t g) : FE K c own b (tCallS (spF K c.cls c.xc n f) (WE W) t) (gFnT n f g) := FE.any fun σ H F ρ Q S q => by
  subst hW
  refine h σ H F ρ _ S (OPost.imp (fun ds q vs H1 F1 e1 r1 => ?_) (fun _ q => q) (OPost.bind q))
  split at q
  · rename_i hn
    obtain ⟨L, hL, rL⟩ := lent e1.s r1
    refine ⟨over L H1 F1, ds, over_in e1.s L, rL, hn, OPost.imp (fun d q v H2 F2 e2 r2 => ?_) (fun k q H2 s => q H2 (e1.h.trans s)) (OPost.bind q)⟩
    unfold noLO at q
    split at q
    · rename_i hf
      exact q v H2 (less L F1 F2) (e1.trans (less_ext e1.s e2)) (rep_but (less_but hL e2) r2 hf)
    · exact q.elim
  · exact q.elim
/-! ### a def that tells a new list -/
def spN (K : PySem.W.Frag) (cls xc : Nat → Addr) (n : Nat) (f : List PyData → O PyData) : Sp := fun vs H Q E => ∃ F ds, Same F H ∧ RepL K cls F vs ds ∧ ds.length = n ∧
  OPost (fun d => ∃ es, d = .list es ∧ ∀ p xs H' F', Ext F H F' H' → H' p = some (.lst xs) → F' p = none → H p = none → RepL K cls F' xs es → Q (.ref p) H') (fun k => ∀ H', Same H H' → E (.ref (xc k)) none H') (f ds)
def listO : PyData → O PyData
  | .list ds => .ok (.list ds)
  | _ => .bad
def gFnL (n : Nat) (f : List PyData → O PyData) (g : Rho → O (List PyData)) : Rho → O PyData := fun ρ => (g ρ).bind fun ds => if ds.length = n then (f ds).bind listO else .bad
theorem gFnL_list {n : Nat} {f : List PyData → O PyData} {g : Rho → O (List PyData)} : ∀ ρ d, gFnL n f g ρ = .ok d → ∃ ds, d = .list ds := fun ρ d h => by
  unfold gFnL at h
  obtain ⟨ds, _, h⟩ := O.bind_okI h
  split at h
  · obtain ⟨e, _, h⟩ := O.bind_okI h
    unfold listO at h
    split at h
    · cases h; exact ⟨_, rfl⟩
    · cases h
  · cases h
theorem fo_callN {n : Nat} {f : List PyData → O PyData} {t : TA} {g : Rho → O (List PyData)} {W : WX} (hW : c.W = W) (h : FA K c own true t g) : FO K c own (tCallS (spN K c.cls c.xc n f) (WE W) t) (gFnL n f g) := fun σ H F ρ Q S q => by
  subst hW
  refine h σ H F ρ _ S (OPost.imp (fun ds q vs H1 F1 e1 r1 => ?_) (fun _ q => q) (OPost.bind q))
  split at q
  · rename_i hn
    refine ⟨F1, ds, e1.s, r1, hn, OPost.imp (fun d q => ?_) (fun k q H2 s => q H2 (e1.h.trans s)) (OPost.bind q)⟩
    unfold listO at q
    split at q
    · obtain ⟨es, e0, q2⟩ := q
      cases e0
      exact ⟨_, rfl, fun p xs H2 F2 e2 h2 f2 hn r2 => q2 p xs H2 F2 (e1.trans e2) h2 f2 (e1.h.free hn) r2⟩
    · exact q.elim
  · exact q.elim
/-- .. lent lists; the items of what it tells have no lists in them -/
def listT : PyData → O PyData
  | .list ds => if noLs ds = true then .ok (.list ds) else .bad
  | _ => .bad
def gFnM (n : Nat) (f : List PyData → O PyData) (g : Rho → O (List PyData)) : Rho → O PyData := fun ρ => (g ρ).bind fun ds => if ds.length = n then (f ds).bind listT else .bad
theorem gFnM_list {n : Nat} {f : List PyData → O PyData} {g : Rho → O (List PyData)} : ∀ ρ d, gFnM n f g ρ = .ok d → ∃ ds, d = .list ds := fun ρ d h => by
  unfold gFnM at h
  obtain ⟨ds, _, h⟩ := O.bind_okI h
  split at h
  · obtain ⟨e, _, h⟩ := O.bind_okI h
    unfold listT at h
    split at h
    · split at h
      · cases h; exact ⟨_, rfl⟩
      · cases h
    · cases h
  · cases h
theorem fo_callM {n : Nat} {f : List PyData → O PyData} {t : TA} {g : Rho → O (List PyData)} {W : WX} (hW : c.W = W) (h : FA K c own false t g) : FO K c own (tCallS (spN K c.cls c.xc n f) (WE W) t) (gFnM n f g) := fun σ H F ρ Q S q => by
  subst hW
  refine h σ H F ρ _ S (OPost.imp (fun ds q vs H1 F1 e1 r1 => ?_) (fun _ q => q) (OPost.bind q))
  split at q
  · rename_i hn
    obtain ⟨L, hL, rL⟩ := lent e1.s r1
    refine ⟨over L H1 F1, ds, over_in e1.s L, rL, hn, OPost.imp (fun d q => ?_) (fun k q H2 s => q H2 (e1.h.trans s)) (OPost.bind q)⟩
    unfold listT at q
    split at q
    · split at q
      · rename_i hf
        obtain ⟨es, e0, q2⟩ := q
        cases e0
        refine ⟨_, rfl, fun p xs H2 F2 e2 h2 f2 hn r2 => q2 p xs H2 (less L F1 F2) (e1.trans (less_ext e1.s e2)) h2 ?_ (e1.h.free hn) (repL_but (less_but hL e2) r2 hf)⟩
        unfold less
        split
        · rfl
        · exact f2
      · exact q.elim
    · exact q.elim
  · exact q.elim
end
section
variable {P : Program} {w : World} {K : PySem.W.Frag} {mg : Str → Option Value} {base : Heap}
theorem fn_okN {x qual : Str} {st : Stmt} {f : Addr} {fd : FuncData} {N ps : List Str} {k : Nat} {cls xc : Nat → Addr} (F : Fun K x qual st f fd) (S : FnScope N ps (defScope st)) (g : Rho → R) (own' : List Nat)
    (h : ∀ (cdv : Value) (A : Around) (outer : List Env) (s : Shared) (H : Hp) (E : XK) (F0 : Hp), Room k (A.deeper (PyProof.Rows.envOfC qual (defScope st) s.heap.objs.size f cdv)) →
      ∃ t, PSs (cxOf (L2.CX P w) P w K mg base N qual (defScope st) f cdv A outer s H E) (defBody st) t ∧ FS K ⟨cls, xc, fun cl d _ H' => E cl d H', (H, F0, []), true⟩ [] [] own' t g) :
    FnOk P w K mg base (L2.CX P w) (k + 1) f fd ps (spN K cls xc ps.length (fnG N.length g)) := by
  refine F.okX S (fun vs H Q E h => ?_) (fun cdv A outer s H vs Q E hr hsp => ?_)
  · obtain ⟨F0, ds, _, r, hn, _⟩ := h
    rw [r.length]; exact hn
  · obtain ⟨F0, ds, sF, r, hn, q⟩ := hsp
    obtain ⟨t, ht, hf⟩ := h cdv A outer s H E F0 hr
    refine ⟨t, ht, hf _ _ H F0 (rho0 N.length ds) (sim_start sF r) ?_⟩
    unfold fnG at q
    cases e : g (rho0 N.length ds) with
    | nx ρ' =>
      rw [e] at q
      obtain ⟨es, e0, _⟩ := q
      cases e0
    | rt d =>
      rw [e] at q
      obtain ⟨es, e0, q2⟩ := q
      exact ⟨es, e0, fun p xs H' F' e _ => q2 p xs H' F' e⟩
    | ex n => rw [e] at q; exact fun σ' H' s' => q H' s'
    | bk ρ' => rw [e] at q; exact q.elim
    | ct ρ' => rw [e] at q; exact q.elim
    | bad => rw [e] at q; exact q.elim
/-- a def of the top that tells a new list -/
def OkNAt (P : Program) (w : World) (K : PySem.W.Frag) (mg : Str → Option Value) (base : Heap) (cls xc : Nat → Addr) (x : Str) (ps : List Str) (n k : Nat) (g : List PyData → O PyData) : Prop :=
  ∃ f fd, FnOk P w K mg base (L2.CX P w) k f fd ps (spN K cls xc n g) ∧ mg x = some (.ref f) ∧ PySem.W.keepIn K (.ref f) = true ∧ Binds K fd ps []
theorem okNAt_of {cls xc : Nat → Addr} {x : Str} {st : Stmt} {ps N : List Str} {k : Nat} (d : DefAt K mg x st ps) (S : FnScope N ps (defScope st)) (g : Rho → R) (own' : List Nat)
    (h : ∀ (f : Addr) (cdv : Value) (A : Around) (outer : List Env) (s : Shared) (H : Hp) (E : XK) (F0 : Hp), Room k (A.deeper (PyProof.Rows.envOfC x (defScope st) s.heap.objs.size f cdv)) →
      ∃ t, PSs (cxOf (L2.CX P w) P w K mg base N x (defScope st) f cdv A outer s H E) (defBody st) t ∧ FS K ⟨cls, xc, fun cl d _ H' => E cl d H', (H, F0, []), true⟩ [] [] own' t g) :
    OkNAt P w K mg base cls xc x ps ps.length (k + 1) (fnG N.length g) := by
  obtain ⟨f, fd, F, m, b⟩ := d
  exact ⟨f, fd, fn_okN F S g own' (h f), m, F.kp, b⟩
end
theorem pe_callNO {X : Cx} {cls xc : Nat → Addr} {x : Str} {ps : List Str} {n k j : Nat} {g : List PyData → O PyData} {W : WX} {p pos : Pos} {e : Expr} {es : List Expr} {t : TA} (o : OkNAt X.prog X.w X.K X.mg X.base cls xc x ps n k g) (hr : Room j X.A) (hk : k ≤ j) (hg : Gl X x) (tk : Takes X W) (ha : PA X (e :: es) t) (hdb : (x == ("__debug__" : Str)) = false := by decide)
    (he : starEach (e :: es) X.env = (false, eval e X.env) :: starEach es X.env := by rfl) (hpl : (backTo pos (starEach es X.env)).any (·.1) = false := by rfl) :
    PE X (.Call (.Name x p) (e :: es) [] pos) (tCallS (spN X.K cls xc n g) (WE W) t) := by
  obtain ⟨f, fd, F, m, kp, b⟩ := o
  exact pe_callS F (hr.mono hk) hg m kp b (fun σ => passAt tk σ) ha hdb he hpl
section
variable (ρ : Rho) (gs : Rho → O (List PyData)) (f : List PyData → O PyData) (n : Nat) (ds : List PyData)
@[simp] theorem gFnL_ap : gFnL n f gs ρ = (gs ρ).bind fun ds => if ds.length = n then (f ds).bind listO else .bad := rfl
@[simp] theorem gFnM_ap : gFnM n f gs ρ = (gs ρ).bind fun ds => if ds.length = n then (f ds).bind listT else .bad := rfl
@[simp] theorem gFnT_ap : gFnT n f gs ρ = (gs ρ).bind fun ds => if ds.length = n then (f ds).bind noLO else .bad := rfl
@[simp] theorem listO_l : listO (.list ds) = .ok (.list ds) := rfl
end
end Fn

set_option Elab.async false
set_option linter.all false
set_option maxRecDepth 100000
namespace Fn
open PySem PySem.Spec L2
/-! ### a try with a name -/
theorem ifF {A B : Prop} (h : B) : if false = true then A else B := by
  rw [if_neg Bool.false_ne_true]
  exact h
theorem pss_guard {X : Cx} {L : List Stmt} {p : Prop} {t : TS} (h : p → PSs X L t) : PSs X L (fun D σ H => p ∧ t D σ H) := ⟨fun pins s σ H D I q => (h q.1).run pins s σ H D I q.2⟩
theorem zc_of {cls c : Value} {d : Option Addr} {oe : Obj} (h : cls = c ∧ d = none) (hz : Zc cls d oe) : Zc c none oe := by
  obtain ⟨rfl, rfl⟩ := h
  exact hz
def tIsE (K : PySem.W.Frag) (D a : Addr) (i : Nat) (v : V) : TE := tCB (rIsE K D a) (tCons (tVar i) (tCons (tC v) tNil))
def tIsT (K : PySem.W.Frag) (D a : Addr) (i : Nat) (v : V) : TT := fun σ H Q => tIsE K D a i v σ H fun x H' => ∃ k, TruV K x H' k ∧ Q k H'
section
variable (X : Cx) (a : Addr) (pn : List (Addr × Obj)) {D : Addr} {oe : Obj} {i : Nat} {v : V} {n c : Str} {p p1 p2 pos : Pos}
theorem pe_isE (C : ExcC X.K D) (hz : Zc (.ref D) none oe) (hf : ∃ vs, oe.data = .fields vs) (hm : X.mg "isinstance" = none) (hg : Gl (X.suite a ((a, oe) :: pn)) "isinstance") (h1 : PE (X.suite a ((a, oe) :: pn)) (.Name n p1) (tVar i)) (h2 : PE (X.suite a ((a, oe) :: pn)) (.Name c p2) (tC v)) :
    PE (X.suite a ((a, oe) :: pn)) (.Call (.Name "isinstance" p) [.Name n p1, .Name c p2] [] pos) (tIsE X.K D a i v) :=
  pe_callB (X := X.suite a ((a, oe) :: pn)) (call_isE C hz hf) hg hm bt_isinstance (pa_cons h1 (pa_cons h2 pa_nil))
theorem pt_isE (C : ExcC X.K D) (hz : Zc (.ref D) none oe) (hf : ∃ vs, oe.data = .fields vs) (hm : X.mg "isinstance" = none) (hg : Gl (X.suite a ((a, oe) :: pn)) "isinstance") (h1 : PE (X.suite a ((a, oe) :: pn)) (.Name n p1) (tVar i)) (h2 : PE (X.suite a ((a, oe) :: pn)) (.Name c p2) (tC v)) :
    PT (X.suite a ((a, oe) :: pn)) (.Call (.Name "isinstance" p) [.Name n p1, .Name c p2] [] pos) (tIsT X.K D a i v) := pt_truth (pe_isE X a pn C hz hf hm hg h1 h2) (by intro _; rfl)
end
/-- the reading -/
theorem isE_rd {K : PySem.W.Frag} {D a : Addr} {i : Nat} {v : V} {cv : Value} {b : Bool} {σ : L2.St} {H : Hp} {Q : VK} (h : σ[i]? = some (some (.ref a))) (hv : ∀ u, RelV v u → u = cv) (k : PySem.W.kitOne K (.ref D) cv = some b) (q : Q (.bl b) H) : tIsE K D a i v σ H Q :=
  ⟨_, h, v, cv, b, rfl, hv, k, q⟩
theorem isT_rd {K : PySem.W.Frag} {D a : Addr} {i : Nat} {v : V} {cv : Value} {b : Bool} {σ : L2.St} {H : Hp} {Q : Bool → Hp → Prop} (h : σ[i]? = some (some (.ref a))) (hv : ∀ u, RelV v u → u = cv) (k : PySem.W.kitOne K (.ref D) cv = some b) (q : Q b H) : tIsT K D a i v σ H Q :=
  isE_rd h hv k ⟨b, rfl, q⟩
/-- whatever the frame holds -/
def anyW (n : Nat) (W : WX) : XK := fun cl d H => ∀ σ : L2.St, σ.length = n → W cl d σ H
theorem passN {X : Cx} {W : WX} {n : Nat} (tk : Takes X W) (hn : X.N.length = n) : Passes (L2.CX X.prog X.w) X (anyW n W) := fun _ σ _ _ e s' I c => tk e s' (XE.of_call I (fun cls d H' h => h σ (by rw [I.len, hn])) c)
theorem pe_makeT (X : Cx) (pn : List (Addr × Obj)) (xe : Value → Shared → Prop) {cls xc : Nat → Addr} {k j : Nat} {fp : List PyData → O PyData} {E : XK} {p pos : Pos} {e : Expr} {es : List Expr} {t : TA} (o : MkAt X.prog X.w X.K X.mg X.base cls xc k fp) (hr : Room j X.A) (hk : k + 1 ≤ j) (hg : Gl (X.tr pn xe) "Problem")
    (hx : Passes (L2.CX X.prog X.w) (X.tr pn xe) E) (ha : PA (X.tr pn xe) (e :: es) t) (he : starEach (e :: es) X.env = (false, eval e X.env) :: starEach es X.env := by rfl) (hpl : (backTo pos (starEach es X.env)).any (·.1) = false := by rfl) :
    PE (X.tr pn xe) (.Call (.Name "Problem" p) (e :: es) [] pos) (tMake (cls 0) (spI X.K cls xc fp) [] E t) := pe_makeO (X := X.tr pn xe) o hr hk hg hx ha he hpl
theorem pe_callT (X : Cx) (pn : List (Addr × Obj)) (xe : Value → Shared → Prop) {cls xc : Nat → Addr} {x : Str} {ps : List Str} {n k j : Nat} {g : List PyData → O PyData} {W : WX} {p pos : Pos} {e : Expr} {es : List Expr} {t : TA} (o : OkAt X.prog X.w X.K X.mg X.base cls xc x ps n k g) (hr : Room j X.A) (hk : k ≤ j) (hg : Gl (X.tr pn xe) x) (tk : Takes (X.tr pn xe) W) (ha : PA (X.tr pn xe) (e :: es) t) (hdb : (x == ("__debug__" : Str)) = false := by decide)
    (he : starEach (e :: es) X.env = (false, eval e X.env) :: starEach es X.env := by rfl) (hpl : (backTo pos (starEach es X.env)).any (·.1) = false := by rfl) :
    PE (X.tr pn xe) (.Call (.Name x p) (e :: es) [] pos) (tCallS (spF X.K cls xc n g) (WE W) t) := pe_callO (X := X.tr pn xe) o hr hk hg tk ha hdb he hpl
def tTruth (K : PySem.W.Frag) (t : TE) : TT := fun σ H Q => t σ H fun x H' => ∃ k, TruV K x H' k ∧ Q k H'
theorem pt_truthT (X : Cx) (pn : List (Addr × Obj)) (xe : Value → Shared → Prop) {e : Expr} {t : TE} (h : PE (X.tr pn xe) e t) (he : ∀ whole, isTrue e (X.tr pn xe).env whole = (do let v ← whole; standAt e.pos; holding [v] (truthy v))) : PT (X.tr pn xe) e (tTruth X.K t) := pt_truth h he
theorem kit_own {K : PySem.W.Frag} {t c : Addr} {b : Bool} (r : PySem.W.subIn K (.ref t) (.ref t) = some true) (hc : PySem.W.isClsIn K c = true) (ht : PySem.W.typeIn K (.ref c) = some (.type "type")) (hs : PySem.W.subIn K (.ref t) (.ref c) = some b) : PySem.W.kitOne K (.ref t) (.ref c) = some b := by
  by_cases e : t = c
  · subst e
    rw [r] at hs
    cases hs
    unfold PySem.W.kitOne
    rw [if_pos (beq_self_eq_true _)]
  · unfold PySem.W.kitOne
    rw [if_neg (fun z => e (Value.ref.inj (beq_iff_eq.mp z)))]
    have hc : (PySem.W.clsIn K c).isSome = true := hc
    show (if ((PySem.W.clsIn K c).isSome && PySem.W.typeIn K (.ref c) == some (.type "type")) = true then PySem.W.subIn K (.ref t) (.ref c) else none) = some b
    rw [hc, ht, if_pos (by rfl)]
    exact hs
theorem kit_ty2 {K : PySem.W.Frag} {t : Value} {T : String} {b : Bool} (hk : PySem.W.kitMeta T = true) (hn : t ≠ .type T) (hs : PySem.W.subIn K t (.type T) = some b) : PySem.W.kitOne K t (.type T) = some b := by
  unfold PySem.W.kitOne
  rw [if_neg (fun z => hn (beq_iff_eq.mp z))]
  show (if PySem.W.kitMeta T = true then PySem.W.subIn K t (.type T) else none) = some b
  rw [if_pos hk]
  exact hs
/-- what is said of the refusal that is waited for -/
structure RefN (K : PySem.W.Frag) (mg : Str → Option Value) (xc : Nat → Addr) (r : Nat) : Prop where
  x1 : ExcC K (xc r)
  em : PySem.W.exmOne K (.ref (xc r)) (.ref (xc r)) = some true
  k : ∀ j, j < 7 → PySem.W.kitOne K (.ref (xc r)) (.ref (xc j)) = some (j == 0 || j == r)
  kV : PySem.W.kitOne K (.ref (xc r)) (.type "ValueError") = some true
  nV : mg "ValueError" = none
/-- a law: true at every script -/
def spLaw (K : PySem.W.Frag) : Sp := fun vs H Q _ => ∃ (a : Addr) (ns : List Int), vs = [.ref a] ∧ SqL K H a (ns.map V.int) ∧ ns.length ≤ 63 ∧ ∀ H', Q (.bl true) H'
theorem repL_ints {K : PySem.W.Frag} {cls : Nat → Addr} {F : Hp} : ∀ ns : List Int, RepL K cls F (ns.map V.int) (ns.map PyData.int)
  | [] => .nil
  | n :: ns => .cons (.int n) (repL_ints ns)
theorem law_fn {P : Program} {w : World} {K : PySem.W.Frag} {mg : Str → Option Value} {base : Heap} {x qual : Str} {st : Stmt} {f : Addr} {fd : FuncData} {N : List Str} {k : Nat} {cls xc : Nat → Addr} (F : Fun K x qual st f fd) (S : FnScope N ["_law_script"] (defScope st)) (g : Rho → R) (own' : List Nat)
    (h : ∀ (cdv : Value) (A : Around) (outer : List Env) (s : Shared) (H : Hp) (E : XK) (F0 : Hp), Room k (A.deeper (PyProof.Rows.envOfC qual (defScope st) s.heap.objs.size f cdv)) →
      ∃ t, PSs (cxOf (L2.CX P w) P w K mg base N qual (defScope st) f cdv A outer s H E) (defBody st) t ∧ FS K ⟨cls, xc, fun cl d _ H' => E cl d H', (H, F0, []), false⟩ [] [] own' t g)
    (hg : ∀ ns : List Int, ns.length ≤ 63 → fnG N.length g [D.ro (ns.map PyData.int)] = .ok (.bool true)) : FnOk P w K mg base (L2.CX P w) (k + 1) f fd ["_law_script"] (spLaw K) := by
  refine F.okX S (fun vs H Q E h => ?_) (fun cdv A outer s H vs Q E hr hsp => ?_)
  · obtain ⟨a, ns, rfl, _⟩ := h
    rfl
  · obtain ⟨a, ns, rfl, hS, hl, q⟩ := hsp
    obtain ⟨t, ht, hf⟩ := h cdv A outer s H E H hr
    have r0 : RepL K cls H [V.ref a] [D.ro (ns.map PyData.int)] := .cons (.ro hS (repL_ints ns)) .nil
    refine ⟨t, ht, hf _ _ H H (rho0 N.length [D.ro (ns.map PyData.int)]) (sim_start (Same.refl H) r0) ?_⟩
    have q1 := hg ns hl
    unfold fnG at q1
    cases e : g (rho0 N.length [D.ro (ns.map PyData.int)]) with
    | nx ρ' => rw [e] at q1; cases q1
    | rt d =>
      rw [e] at q1
      cases q1
      intro v H' F' _ _ r
      cases r
      exact q H'
    | ex n => rw [e] at q1; cases q1
    | bk ρ' => rw [e] at q1; cases q1
    | ct ρ' => rw [e] at q1; cases q1
    | bad => rw [e] at q1; cases q1
end Fn

set_option Elab.async false
set_option linter.all false
set_option maxRecDepth 100000
/-! math.gcd; // by any divisor but nought. -/
namespace Fn
open PySem PySem.Spec L2
section
variable {K : PySem.W.Frag} {c : Ct} {b : Bool}
def bGcd : List PyData → O PyData
  | [.int i, .int j] => .ok (.int ((Nat.gcd i.natAbs j.natAbs : Nat) : Int))
  | _ => .bad
@[simp] theorem bGcd_i (i j : Int) : bGcd [.int i, .int j] = .ok (.int ((Nat.gcd i.natAbs j.natAbs : Nat) : Int)) := rfl
theorem cf_gcd : CallF K c b rGcd bGcd := fun F H xs ds Q s r q => by
  unfold bGcd at q
  split at q
  · rename_i i j
    obtain ⟨x, y, rfl, h1, h2⟩ := paired2 r
    exact ⟨i, j, by rw [Rep1.int h1, Rep1.int h2], q _ _ _ (Ext.refl s) (.of (.int _))⟩
  · exact q.elim
def CDivX (_ j : Int) : Prop := j ≠ 0 ∧ j.natAbs.log2 < 9000
theorem op_fdivX {X : Cx} : OpR X (binaryOp .FloorDiv) (rI CDivX fun i j => .int (i.fdiv j)) := opI fun i j _ _ _ _ _ hc q => by
  exact PyProof.Rows.floordiv_int hc.1 q (.inl (PyProof.noPylong_of_log2 hc.2))
def dFdivX : PyData → PyData → O PyData
  | .int i, .int j => if j ≠ 0 ∧ j.natAbs.log2 < 9000 then .ok (.int (i.fdiv j)) else .bad
  | _, _ => .bad
@[simp] theorem dFdivX_int (i j : Int) : dFdivX (.int i) (.int j) = if j ≠ 0 ∧ j.natAbs.log2 < 9000 then .ok (.int (i.fdiv j)) else .bad := rfl
theorem opf_fdivX : OpF K c b (rI CDivX fun i j => .int (i.fdiv j)) dFdivX := opf_int (C := CDivX) (fun i j H Q h q => ⟨i, j, rfl, rfl, h, q⟩)
  (fun d e z h => by unfold dFdivX at h; split at h <;> first | (split at h <;> first | (cases h; exact ⟨_, _, rfl, rfl, ‹_›, rfl⟩) | cases h) | cases h) (fun d e n h => by unfold dFdivX at h; split at h <;> (try split at h) <;> cases h)
abbrev gFdivX := g2 fun d e => noEx (dFdivX d e)
end
end Fn

set_option Elab.async false
set_option linter.all false
set_option maxRecDepth 100000
/-! What comes of comprehensions and loops over lists of a kind. -/
namespace Fn
open PySem PySem.Spec L2
theorem compL_of {α : Type} {f : PyData → Rho → O Rho} {t : Rho → O Bool} {e : Rho → O PyData} {ρ : Rho} (φ ψ : α → PyData) : ∀ (L : List α), (∀ a ∈ L, ∃ ρ1, f (φ a) ρ = .ok ρ1 ∧ t ρ1 = .ok true ∧ e ρ1 = .ok (ψ a)) → compL f t e ρ (L.map φ) = .ok (L.map ψ)
  | [], _ => rfl
  | a :: L, h => by
    obtain ⟨ρ1, h1, h2, h3⟩ := h a List.mem_cons_self
    rw [List.map_cons, List.map_cons]
    unfold compL
    rw [h1, O.bind_ok, h2]
    show (noEx (e ρ1)).bind _ = _
    rw [h3]
    show (compL f t e ρ (L.map φ)).bind _ = _
    rw [compL_of φ ψ L fun d hd => h d (List.mem_cons_of_mem _ hd)]
    rfl
theorem comp_of {α : Type} {vs : List Nat} {f : PyData → Rho → O Rho} {t : Rho → O Bool} {e : Rho → O PyData} {gi : Rho → O (List PyData)} {ρ : Rho} (L : List α) (φ ψ : α → PyData) (hg : gi ρ = .ok (L.map φ)) (hn : L.length ≤ lim)
    (h : ∀ a ∈ L, ∃ ρ1, f (φ a) (wipeR ρ vs) = .ok ρ1 ∧ t ρ1 = .ok true ∧ e ρ1 = .ok (ψ a)) : gComp vs f t e gi ρ = .ok (.list (L.map ψ)) := by
  rw [gComp_ap, hg]
  have := compL_of (f := f) (t := t) (e := e) (ρ := wipeR ρ vs) φ ψ L h
  simp -implicitDefEqProofs [hn, this]
theorem compL_flt {α : Type} {f : PyData → Rho → O Rho} {t : Rho → O Bool} {e : Rho → O PyData} {ρ : Rho} (φ ψ : α → PyData) (p : α → Bool) : ∀ (L : List α), (∀ a ∈ L, ∃ ρ1, f (φ a) ρ = .ok ρ1 ∧ t ρ1 = .ok (p a) ∧ (p a = true → e ρ1 = .ok (ψ a))) → compL f t e ρ (L.map φ) = .ok ((L.filter p).map ψ)
  | [], _ => rfl
  | a :: L, h => by
    obtain ⟨ρ1, h1, h2, h3⟩ := h a List.mem_cons_self
    have ih := compL_flt φ ψ p L fun d hd => h d (List.mem_cons_of_mem _ hd)
    rw [List.map_cons]
    unfold compL
    rw [h1, O.bind_ok, h2]
    show (if p a = true then (noEx (e ρ1)).bind _ else compL f t e ρ (L.map φ)) = _
    cases hp : p a with
    | true =>
      rw [if_pos rfl, h3 hp, List.filter_cons_of_pos hp]
      show (compL f t e ρ (L.map φ)).bind _ = _
      rw [ih]
      rfl
    | false =>
      rw [if_neg Bool.false_ne_true, List.filter_cons_of_neg (by rw [hp]; exact Bool.false_ne_true)]
      exact ih
theorem comp_flt {α : Type} {vs : List Nat} {f : PyData → Rho → O Rho} {t : Rho → O Bool} {e : Rho → O PyData} {gi : Rho → O (List PyData)} {ρ : Rho} (L : List α) (φ ψ : α → PyData) (p : α → Bool) (hg : gi ρ = .ok (L.map φ)) (hn : L.length ≤ lim)
    (h : ∀ a ∈ L, ∃ ρ1, f (φ a) (wipeR ρ vs) = .ok ρ1 ∧ t ρ1 = .ok (p a) ∧ (p a = true → e ρ1 = .ok (ψ a))) : gComp vs f t e gi ρ = .ok (.list ((L.filter p).map ψ)) := by
  rw [gComp_ap, hg]
  have := compL_flt (f := f) (t := t) (e := e) (ρ := wipeR ρ vs) φ ψ p L h
  simp -implicitDefEqProofs [hn, this]
theorem forL_fold {α β J : Type} {f : PyData → Rho → O Rho} {body : Rho → R} (φ : α → PyData) (emb : β → J → Rho) (S : β → α → β) (I : List α → β → Prop) : ∀ (L pre : List α) (b : β) (j : J), I pre b →
    (∀ p a q b j, L = p ++ a :: q → I (pre ++ p) b → ∃ ρ1 j', f (φ a) (emb b j) = .ok ρ1 ∧ body ρ1 = .nx (emb (S b a) j') ∧ I (pre ++ p ++ [a]) (S b a)) →
    ∃ j', forL f body (L.map φ) (emb b j) = .nx (emb (L.foldl S b) j') ∧ I (pre ++ L) (L.foldl S b)
  | [], pre, b, j, h, _ => ⟨j, rfl, by rw [List.append_nil]; exact h⟩
  | a :: L, pre, b, j, h, hs => by
    obtain ⟨ρ1, j', h1, h2, h3⟩ := hs [] a L b j rfl (by rw [List.append_nil]; exact h)
    rw [List.append_nil] at h3
    obtain ⟨j2, k1, k2⟩ := forL_fold φ emb S I L (pre ++ [a]) (S b a) j' h3 fun p x q b j e hi => by
      subst e
      obtain ⟨ρ2, j2, m1, m2, m3⟩ := hs (a :: p) x q b j rfl (by rw [List.append_assoc] at hi; exact hi)
      refine ⟨ρ2, j2, m1, m2, ?_⟩
      have e1 : pre ++ [a] ++ p ++ [x] = pre ++ (a :: p) ++ [x] := by simp
      rw [e1]
      exact m3
    refine ⟨j2, ?_, by rw [List.append_assoc] at k2; exact k2⟩
    rw [List.map_cons]
    unfold forL
    rw [h1, O.go_ok, h2]
    exact k1
theorem for_fold {α β J : Type} {f : PyData → Rho → O Rho} {body : Rho → R} (L : List α) (φ : α → PyData) (emb : β → J → Rho) (S : β → α → β) (I : List α → β → Prop) {b : β} {j : J} (h0 : I [] b)
    (hs : ∀ p a q b j, L = p ++ a :: q → I p b → ∃ ρ1 j', f (φ a) (emb b j) = .ok ρ1 ∧ body ρ1 = .nx (emb (S b a) j') ∧ I (p ++ [a]) (S b a)) :
    ∃ j', forL f body (L.map φ) (emb b j) = .nx (emb (L.foldl S b) j') ∧ I L (L.foldl S b) := by
  have := forL_fold (f := f) (body := body) φ emb S I L [] b j h0 fun p a q b j e hi => by rw [List.nil_append] at hi ⊢; exact hs p a q b j e hi
  rw [List.nil_append] at this
  exact this
/-- a loop that looks for one that is not as it should be, all are -/
theorem for_all {α J : Type} {f : PyData → Rho → O Rho} {body : Rho → R} (L : List α) (φ : α → PyData) (emb : J → Rho) (j : J) (hs : ∀ a ∈ L, ∀ j, ∃ ρ1 j', f (φ a) (emb j) = .ok ρ1 ∧ body ρ1 = .nx (emb j')) :
    ∃ j', forL f body (L.map φ) (emb j) = .nx (emb j') := by
  obtain ⟨j', h, _⟩ := for_fold (f := f) (body := body) L φ (fun (_ : Unit) j => emb j) (fun _ _ => ()) (fun _ _ => True) (b := ()) (j := j) trivial fun p a q _ j e _ => by
    obtain ⟨ρ1, j', h1, h2⟩ := hs a (by rw [e]; simp) j
    exact ⟨ρ1, j', h1, h2, trivial⟩
  exact ⟨j', h⟩
/-- the same, with its answer -/
theorem for_find {α J : Type} {f : PyData → Rho → O Rho} {body : Rho → R} (φ : α → PyData) (emb : J → Rho) (p : α → Bool) (v : PyData) : ∀ (L : List α) (j : J), (∀ a ∈ L, ∀ j, ∃ ρ1, f (φ a) (emb j) = .ok ρ1 ∧ (p a = true → ∃ j', body ρ1 = .nx (emb j')) ∧ (p a = false → body ρ1 = .rt v)) →
    (L.all p = true ∧ ∃ j', forL f body (L.map φ) (emb j) = .nx (emb j')) ∨ (L.all p = false ∧ forL f body (L.map φ) (emb j) = .rt v)
  | [], j, _ => .inl ⟨rfl, j, rfl⟩
  | a :: L, j, hs => by
    obtain ⟨ρ1, h1, h2, h3⟩ := hs a List.mem_cons_self j
    rw [List.map_cons, List.all_cons]
    cases e : p a with
    | true =>
      obtain ⟨j', h4⟩ := h2 e
      rw [Bool.true_and]
      rcases for_find φ emb p v L j' fun a ha j => hs a (List.mem_cons_of_mem _ ha) j with ⟨k1, j2, k2⟩ | ⟨k1, k2⟩
      · refine .inl ⟨k1, j2, ?_⟩
        unfold forL
        rw [h1, O.go_ok, h4]
        exact k2
      · refine .inr ⟨k1, ?_⟩
        unfold forL
        rw [h1, O.go_ok, h4]
        exact k2
    | false =>
      refine .inr ⟨rfl, ?_⟩
      unfold forL
      rw [h1, O.go_ok, h3 e]
theorem rangeD_map (n : Nat) : rangeD 0 n = (List.range n).map fun (i : Nat) => PyData.int i := rangeD_int n
/-! sizes -/
def Sm (k : Nat) (x : Int) : Prop := x.natAbs < 2 ^ k
theorem Sm.up {k m : Nat} {x : Int} (h : Sm k x) (hm : k ≤ m) : Sm m x := Nat.lt_of_lt_of_le h (Nat.pow_le_pow_right (by decide) hm)
theorem Sm.mul {k m : Nat} {x y : Int} (h : Sm k x) (h2 : Sm m y) : Sm (k + m) (x * y) := wide_lt h h2
theorem Sm.sub {k : Nat} {x y : Int} (h : Sm k x) (h2 : Sm k y) : Sm (k + 1) (x - y) := by
  unfold Sm at *
  rw [Nat.pow_succ]
  omega
theorem Sm.add {k : Nat} {x y : Int} (h : Sm k x) (h2 : Sm k y) : Sm (k + 1) (x + y) := by
  unfold Sm at *
  rw [Nat.pow_succ]
  omega
theorem Sm.neg {k : Nat} {x : Int} (h : Sm k x) : Sm k (-x) := by
  unfold Sm at *
  omega
theorem Sm.ok {k m : Nat} {x y : Int} (h : Sm k x) (h2 : Sm m y) (h0 : 0 < k) (h1 : 0 < m) (hk : k + m ≤ 1000000) : mulOk x y = true := by
  have : CMulW x y := wide_mul h h2 h0 h1 hk
  unfold mulOk
  rw [decide_eq_true (show x.natAbs.log2 + y.natAbs.log2 < 1000000 from this)]
  rfl
theorem Sm.log {k : Nat} {x : Int} (h : Sm k x) (h0 : 0 < k) (h9 : k ≤ 9000) : x.natAbs.log2 < 9000 := Nat.lt_of_lt_of_le (PySem.Flt.log2_lt_of h0 h) h9
theorem Sm.dvd {k : Nat} {x d : Int} (h : Sm k x) (hd : d ∣ x) (hx : x ≠ 0) : Sm k d := by
  unfold Sm at *
  have := Nat.le_of_dvd (by omega) (Int.natAbs_dvd_natAbs.mpr hd)
  omega
/-- what is left of a divided number is no greater -/
theorem Sm.quot {k : Nat} {x d q : Int} (h : Sm k x) (hd : d * q = x) (hd0 : d ≠ 0) : Sm k q := by
  unfold Sm at *
  have h1 : x.natAbs = d.natAbs * q.natAbs := by rw [← hd, Int.natAbs_mul]
  have h2 : 1 ≤ d.natAbs := by omega
  have := Nat.mul_le_mul_right q.natAbs h2
  omega
abbrev lnD (l : List Int) : PyData := .list (l.map PyData.int)
abbrev tbD (t : List (List Int)) : PyData := .list (t.map lnD)
theorem getD_map (l : List Int) (i : Nat) (h : i < l.length) : (l.map PyData.int)[i]? = some (.int (l.getD i 0)) := by
  rw [List.getElem?_map, List.getElem?_eq_getElem h, List.getD_eq_getElem?_getD, List.getElem?_eq_getElem h]
  rfl
theorem ix_int (l : List Int) (i : Nat) (h : i < l.length) : dIx (lnD l) (.int i) = .ok (.int (l.getD i 0)) := dIx_l _ _ (by
  rw [atI_map, atI_getD 0 (by omega) (by omega), Int.toNat_natCast]
  rfl)
theorem ix_row (t : List (List Int)) (i : Nat) (h : i < t.length) : dIx (tbD t) (.int i) = .ok (lnD (t.getD i [])) := dIx_l _ _ (by
  rw [atI_map, atI_getD [] (by omega) (by omega), Int.toNat_natCast]
  rfl)
theorem ixN_nat {n i : Nat} (h : i < n) : ixN n (i : Int) = some i := by
  rw [ixN_of (by omega) (by omega), Int.toNat_natCast]
theorem set_int (l : List Int) (i : Nat) (v : Int) : (l.map PyData.int).set i (.int v) = (l.set i v).map PyData.int := List.map_set.symm
theorem set_row (t : List (List Int)) (i : Nat) (v : List Int) : (t.map lnD).set i (lnD v) = (t.set i v).map lnD := List.map_set.symm
theorem zipD_map {α β : Type} (f : α → PyData) (g : β → PyData) : ∀ (xs : List α) (ys : List β), zipD (xs.map f) (ys.map g) = (xs.zip ys).map fun p => .tuple [f p.1, g p.2]
  | [], _ => by unfold zipD; simp
  | _ :: _, [] => by unfold zipD; simp
  | x :: xs, y :: ys => by
    have ih := zipD_map f g xs ys
    unfold zipD at ih ⊢
    rw [List.map_cons, List.map_cons, List.zipWith_cons_cons, ih, List.zip_cons_cons, List.map_cons]
end Fn

set_option Elab.async false
set_option linter.all false
set_option maxRecDepth 100000
/-! Defs within which a lambda is made: the tables of code objects change. -/
namespace Fn
open PySem PySem.Spec L2
/-- without the tables -/
def hideT (T : List (Addr × Str)) (H : Hp) : Hp := fun a => if T.any (fun p => p.1 == a) = true then none else H a
section
variable {T : List (Addr × Str)} {H F H' F' : Hp} {a : Addr} {o : HO}
theorem hideT_at (h : ∃ p ∈ T, p.1 = a) : hideT T H a = none := by
  obtain ⟨p, hp, e⟩ := h
  unfold hideT
  rw [if_pos (List.any_eq_true.mpr ⟨p, hp, by rw [e]; exact beq_self_eq_true a⟩)]
theorem hideT_off (h : ∀ p ∈ T, p.1 ≠ a) : hideT T H a = H a := by
  unfold hideT
  rw [if_neg]
  intro z
  obtain ⟨p, hp, e⟩ := List.any_eq_true.mp z
  exact h p hp (beq_iff_eq.mp e)
theorem hideT_some (h : hideT T H a = some o) : H a = some o ∧ ∀ p ∈ T, p.1 ≠ a := by
  unfold hideT at h
  split at h
  · cases h
  · rename_i n
    exact ⟨h, fun p hp e => n (List.any_eq_true.mpr ⟨p, hp, by rw [e]; exact beq_self_eq_true a⟩)⟩
theorem hideT_none (h : hideT T H a = none) : (∃ p ∈ T, p.1 = a) ∨ H a = none := by
  unfold hideT at h
  split at h
  · rename_i n
    obtain ⟨p, hp, e⟩ := List.any_eq_true.mp n
    exact .inl ⟨p, hp, beq_iff_eq.mp e⟩
  · exact .inr h
/-- no table -/
theorem tab_ne {xs : HO} (t : LamX.Tabs T H) (h : H a = some xs) (hx : ∀ ps, xs ≠ .tbl ps) : ∀ p ∈ T, p.1 ≠ a := fun p hp e => by
  obtain ⟨ps, h1, _⟩ := t p hp
  rw [e, h] at h1
  exact hx ps (Option.some.inj h1)
theorem hide_same : Same (hideT T H) H := fun b o e => (hideT_some e).1
theorem same_hide (s : Same F H) (hf : ∀ p ∈ T, F p.1 = none) : Same F (hideT T H) := fun b o e => by
  rw [hideT_off]
  · exact s b o e
  · intro p hp z
    have := hf p hp
    rw [z, e] at this
    cases this
end
section
variable {K : PySem.W.Frag} {cls : Nat → Addr} {B : Hp × Hp × List (Addr × Str)} {own : List Nat} {σ : L2.St} {H F H' F' : Hp} {ρ : Rho}
/-- all but the tables has grown -/
theorem Sim.callT (S : Sim K cls B own σ H F ρ) (hB : ∀ p ∈ B.2.2, B.1 p.1 = none) (e : Ext F (hideT B.2.2 H) F' H') (t : TF B.2.2 H' F') : Sim K cls B own σ H' F' ρ where
  b := ⟨S.b.f.trans e.f, fun b o h => e.h b o (by
      rw [hideT_off (fun p hp z => by have := hB p hp; rw [z, h] at this; cases this)]
      exact S.b.h b o h), e.s, fun a o h => by
    rcases e.n a o h with z | z
    · exact S.b.n a o z
    · rcases hideT_none z with ⟨p, hp, z⟩ | z
      · exact .inr (by rw [← z]; exact hB p hp)
      · exact .inr (S.b.h.free z)⟩
  len := S.len
  fro := fun i d hi h => by
    obtain ⟨v, h1, h2⟩ := S.fro i d hi h
    exact ⟨v, h1, h2.mono e.f⟩
  ow := fun i d hi h => by
    obtain ⟨a, xs, ds, h1, h2, h3, h4, h5, h6⟩ := S.ow i d hi h
    have hh : hideT B.2.2 H a = some (.lst xs) := by
      rw [hideT_off (tab_ne S.tb h3 (fun ps z => by cases z))]
      exact h3
    refine ⟨a, xs, ds, h1, h2, e.h _ _ hh, h4.mono e.f, ?_, h6⟩
    cases q : F' a with
    | none => rfl
    | some o =>
      rcases e.n a o q with z | z
      · rw [h5] at z; cases z
      · rw [hh] at z; cases z
  sep := S.sep
  tb := t.1
  ft := t.2
end
/-! ### expressions within which tables may change -/
def FX (K : PySem.W.Frag) (c : Ct) (own : List Nat) (t : TE) (g : Rho → O PyData) : Prop := ∀ σ H F ρ Q, Sim K c.cls c.B own σ H F ρ →
  OPost (fun d => ∀ v H' F', Same F F' → Sim K c.cls c.B own σ H' F' ρ → Rep K c.cls F' v d → Q v H') (fun n => ∀ H', Same c.B.1 H' → c.W (.ref (c.xc n)) none σ H') (g ρ) → t σ H Q
def FXA (K : PySem.W.Frag) (c : Ct) (own : List Nat) (t : TA) (g : Rho → O (List PyData)) : Prop := ∀ σ H F ρ Q, Sim K c.cls c.B own σ H F ρ →
  OPost (fun ds => ∀ vs H' F', Same F F' → Sim K c.cls c.B own σ H' F' ρ → RepL K c.cls F' vs ds → Q vs H') (fun n => ∀ H', Same c.B.1 H' → c.W (.ref (c.xc n)) none σ H') (g ρ) → t σ H Q
def spT (K : PySem.W.Frag) (cls : Nat → Addr) (T : List (Addr × Str)) (n : Nat) (f : List PyData → O PyData) : Sp := fun vs H Q _ => LamX.Tabs T H ∧ ∃ F ds, Same F H ∧ (∀ p ∈ T, F p.1 = none) ∧ RepL K cls F vs ds ∧ ds.length = n ∧
  OPost (fun d => ∀ v H' F', Ext F (hideT T H) F' H' → TF T H' F' → Rep K cls F' v d → Q v H') (fun _ => False) (f ds)
def gFnC (n : Nat) (f : List PyData → O PyData) (g : Rho → O (List PyData)) : Rho → O PyData := fun ρ => (g ρ).bind fun ds => if ds.length = n then noEx (f ds) else .bad
section
variable {K : PySem.W.Frag} {c : Ct} {ol own own' : List Nat} {ta : TA} {t : TE} {g : Rho → O PyData} {ga : Rho → O (List PyData)} {n : Nat} {f : List PyData → O PyData} {W : WX}
theorem FE.fx (h : FE K c own true t g) : FX K c own t g := fun σ H F ρ Q S q =>
  h σ H F ρ Q S (OPost.imp (fun d q v H1 F1 e r => q v H1 F1 e.f (S.ext e) r) (fun n q H1 s => q H1 (S.b.h.trans s)) q)
theorem FA.fx (h : FA K c own true ta ga) : FXA K c own ta ga := fun σ H F ρ Q S q =>
  h σ H F ρ Q S (OPost.imp (fun d q v H1 F1 e r => q v H1 F1 e.f (S.ext e) r) (fun n q H1 s => q H1 (S.b.h.trans s)) q)
theorem fxa_cons {ts : TA} {gs : Rho → O (List PyData)} (h : FX K c own t g) (hs : FXA K c own ts gs) : FXA K c own (tCons t ts) (gConsA g gs) := fun σ H F ρ Q S q => by
  refine h σ H F ρ _ S (OPost.imp (fun d q v H1 F1 s1 S1 r1 => ?_) (fun _ q => q) (OPost.bind q))
  refine hs σ H1 F1 ρ _ S1 (OPost.imp (fun ds q vs H2 F2 s2 S2 r2 => ?_) (fun _ q => q) (OPost.bind q))
  exact q (v :: vs) H2 F2 (s1.trans s2) S2 (.cons (r1.mono s2) r2)
theorem fx_callC (hB : ∀ p ∈ c.B.2.2, c.B.1 p.1 = none) (h : FXA K c own ta ga) : FX K c own (tCallS (spT K c.cls c.B.2.2 n f) (WE W) ta) (gFnC n f ga) := fun σ H F ρ Q S q => by
  refine h σ H F ρ _ S (OPost.imp (fun ds q vs H1 F1 s1 S1 r1 => ?_) (fun _ q => q) (OPost.bind q))
  split at q
  · rename_i hn
    refine ⟨S1.tb, F1, ds, S1.s, S1.ft, r1, hn, OPost.imp (fun d q v H2 F2 e2 t2 r2 => ?_) (fun _ q => q) (noEx_post q)⟩
    exact q v H2 F2 (s1.trans e2.f) (S1.callT hB e2 t2) r2
  · exact q.elim
theorem fx_call (hW : c.W = W) (h : FXA K c own ta ga) : FX K c own (tCallS (spF K c.cls c.xc n f) (WE W) ta) (gFn n f ga) := fun σ H F ρ Q S q => by
  subst hW
  refine h σ H F ρ _ S (OPost.imp (fun ds q vs H1 F1 s1 S1 r1 => ?_) (fun _ q => q) (OPost.bind q))
  split at q
  · rename_i hn
    exact ⟨F1, ds, S1.s, r1, hn, OPost.imp (fun d q v H2 F2 e2 r2 => q v H2 F2 (s1.trans e2.f) (S1.ext e2) r2) (fun k q H2 s => q H2 (S1.b.h.trans s)) q⟩
  · exact q.elim
theorem fx_set {i : Nat} (h : FX K c own t g) (hi : own.contains i = false) : FS K c ol own own (tAsg t (gName i)) (gSet i g) := fun D σ H F ρ S q => by
  refine h σ H F ρ _ S (SPost.go q (fun d q v H1 F1 s S1 r => ?_) fun n q H1 s => q σ H1 s)
  have z := S1.set i r
  rw [notIn_of hi] at z
  exact q _ H1 F1 s z
theorem fx_asg {tg : TG} {fa : PyData → Rho → O Rho} (h : FX K c own t g) (hg : FG K c own tg fa) (hx : ∀ d ρ k, fa d ρ ≠ .ex k) : FS K c ol own own (tAsg t tg) (gAsg fa g) := fun D σ H F ρ S q => by
  refine h σ H F ρ _ S (SPost.go q (fun d q v H1 F1 s S1 r => ?_) fun n q H1 s => q σ H1 s)
  refine hg v d σ H1 F1 ρ _ S1 r ?_
  cases ho : fa d ρ with
  | ok ρ' =>
    rw [ho] at q
    exact fun σ' S' => q σ' H1 F1 s S'
  | ex k => exact absurd ho (hx d ρ k)
  | bad => rw [ho] at q; exact q.elim
theorem fx_ret (h : FX K c [] t g) (hf : c.fr = false := by rfl) : FS K c ol own own' (tRet t) (gRet g) := fun D σ H F ρ S q => by
  obtain ⟨F', s, S'⟩ := S.shrink (own' := []) (fun i z => absurd z List.not_mem_nil)
  refine h σ H F' ρ _ S' (SPost.go (SPost.mono q s) (fun d q v H1 F1 s1 S1 r => ?_) fun n q H1 s => q σ H1 s)
  have q : RetP K c c.B.2.1 c.B.1 c.B.2.2 c.fr D.rt d := q
  rw [hf] at q
  exact q v H1 F1 S1.b ⟨S1.tb, S1.ft⟩ r
end
/-! ### such defs -/
theorem sim_startT {K : PySem.W.Frag} {cls : Nat → Addr} {F H : Hp} {T : List (Addr × Str)} {N : List Str} {vs : List V} {ds : List PyData} (t : LamX.Tabs T H) (s : Same F H) (hf : ∀ p ∈ T, F p.1 = none) (r : RepL K cls F vs ds) : Sim K cls (hideT T H, F, T) [] (L2.start N vs) H F (rho0 N.length ds) where
  b := ⟨Same.refl _, hide_same, s, fun _ _ e => .inl e⟩
  len := (sim_start (cls := cls) (N := N) s r).len
  fro := (sim_start s r).fro
  ow := fun i d hi => absurd hi List.not_mem_nil
  sep := fun i j d e a hi => absurd hi List.not_mem_nil
  tb := t
  ft := hf
theorem hide_base {T : List (Addr × Str)} {H : Hp} : ∀ p ∈ T, hideT T H p.1 = none := fun p hp => hideT_at ⟨p, hp, rfl⟩
section
variable {P : Program} {w : World} {K : PySem.W.Frag} {mg : Str → Option Value} {base : Heap}
theorem fn_okT {x qual : Str} {st : Stmt} {f : Addr} {fd : FuncData} {N ps : List Str} {k : Nat} {cls xc : Nat → Addr} {T : List (Addr × Str)} (F : Fun K x qual st f fd) (S : FnScope N ps (defScope st)) (g : Rho → R) (own' : List Nat)
    (h : ∀ (cdv : Value) (A : Around) (outer : List Env) (s : Shared) (H : Hp) (E : XK) (F0 : Hp), Room k (A.deeper (PyProof.Rows.envOfC qual (defScope st) s.heap.objs.size f cdv)) →
      ∃ t, PSs (cxOf (L2.CX P w) P w K mg base N qual (defScope st) f cdv A outer s H E) (defBody st) t ∧ FS K ⟨cls, xc, fun cl d _ H' => E cl d H', (hideT T H, F0, T), false⟩ [] [] own' t g) :
    FnOk P w K mg base (L2.CX P w) (k + 1) f fd ps (spT K cls T ps.length (fun ds => noEx (fnG N.length g ds))) := by
  refine F.okX S (fun vs H Q E h => ?_) (fun cdv A outer s H vs Q E hr hsp => ?_)
  · obtain ⟨_, F0, ds, _, _, r, hn, _⟩ := h
    rw [r.length]; exact hn
  · obtain ⟨tb, F0, ds, sF, hf0, r, hn, q⟩ := hsp
    obtain ⟨t, ht, hf⟩ := h cdv A outer s H E F0 hr
    refine ⟨t, ht, hf _ _ H F0 (rho0 N.length ds) (sim_startT tb sF hf0 r) ?_⟩
    have q : OPost (fun d => ∀ v H' F', Ext F0 (hideT T H) F' H' → TF T H' F' → Rep K cls F' v d → Q v H') (fun _ => False) (noEx (outR (g (rho0 N.length ds)))) := q
    cases e : g (rho0 N.length ds) with
    | nx ρ' =>
      rw [e] at q
      exact fun σ' H' F' s' S' => q .non H' F' S'.b ⟨S'.tb, S'.ft⟩ .non
    | rt d => rw [e] at q; exact q
    | ex n => rw [e] at q; exact q.elim
    | bk ρ' => rw [e] at q; exact q.elim
    | ct ρ' => rw [e] at q; exact q.elim
    | bad => rw [e] at q; exact q.elim
def OkTAt (P : Program) (w : World) (K : PySem.W.Frag) (mg : Str → Option Value) (base : Heap) (cls : Nat → Addr) (T : List (Addr × Str)) (x : Str) (ps : List Str) (n k : Nat) (g : List PyData → O PyData) : Prop :=
  ∃ f fd, FnOk P w K mg base (L2.CX P w) k f fd ps (spT K cls T n g) ∧ mg x = some (.ref f) ∧ PySem.W.keepIn K (.ref f) = true ∧ Binds K fd ps []
theorem okTAt_of {cls xc : Nat → Addr} {T : List (Addr × Str)} {x : Str} {st : Stmt} {ps N : List Str} {k : Nat} (d : DefAt K mg x st ps) (S : FnScope N ps (defScope st)) (g : Rho → R) (own' : List Nat)
    (h : ∀ (f : Addr) (cdv : Value) (A : Around) (outer : List Env) (s : Shared) (H : Hp) (E : XK) (F0 : Hp), Room k (A.deeper (PyProof.Rows.envOfC x (defScope st) s.heap.objs.size f cdv)) →
      ∃ t, PSs (cxOf (L2.CX P w) P w K mg base N x (defScope st) f cdv A outer s H E) (defBody st) t ∧ FS K ⟨cls, xc, fun cl d _ H' => E cl d H', (hideT T H, F0, T), false⟩ [] [] own' t g) :
    OkTAt P w K mg base cls T x ps ps.length (k + 1) (fun ds => noEx (fnG N.length g ds)) := by
  obtain ⟨f, fd, F, m, b⟩ := d
  exact ⟨f, fd, fn_okT F S g own' (h f), m, F.kp, b⟩
end
theorem pe_callTO {X : Cx} {cls : Nat → Addr} {T : List (Addr × Str)} {x : Str} {ps : List Str} {n k j : Nat} {g : List PyData → O PyData} {W : WX} {p pos : Pos} {e : Expr} {es : List Expr} {t : TA} (o : OkTAt X.prog X.w X.K X.mg X.base cls T x ps n k g) (hr : Room j X.A) (hk : k ≤ j) (hg : Gl X x) (tk : Takes X W) (ha : PA X (e :: es) t) (hdb : (x == ("__debug__" : Str)) = false := by decide)
    (he : starEach (e :: es) X.env = (false, eval e X.env) :: starEach es X.env := by rfl) (hpl : (backTo pos (starEach es X.env)).any (·.1) = false := by rfl) :
    PE X (.Call (.Name x p) (e :: es) [] pos) (tCallS (spT X.K cls T n g) (WE W) t) := by
  obtain ⟨f, fd, F, m, kp, b⟩ := o
  exact pe_callS F (hr.mono hk) hg m kp b (fun σ => passAt tk σ) ha hdb he hpl
/-- a pure def serves as well -/
theorem spT_weak {K : PySem.W.Frag} {cls : Nat → Addr} {T : List (Addr × Str)} {n : Nat} {f g : List PyData → O PyData} (h : ∀ ds d, f ds = .ok d → g ds = .ok d) {vs : List V} {H : Hp} {Q : VK} {E : XK} (q : spT K cls T n f vs H Q E) : spT K cls T n g vs H Q E := by
  obtain ⟨t, F, ds, s, hf, r, hn, q⟩ := q
  refine ⟨t, F, ds, s, hf, r, hn, ?_⟩
  cases e : f ds with
  | ok d => rw [e] at q; rw [h ds d e]; exact q
  | ex n => rw [e] at q; exact q.elim
  | bad => rw [e] at q; exact q.elim
section
variable (ρ : Rho) (gs : Rho → O (List PyData)) (f : List PyData → O PyData) (n : Nat)
@[simp] theorem gFnC_ap : gFnC n f gs ρ = (gs ρ).bind fun ds => if ds.length = n then noEx (f ds) else .bad := rfl
end
end Fn

set_option Elab.async false
set_option linter.all false
set_option maxRecDepth 100000
set_option maxHeartbeats 2000000
/-! A lambda of one parameter, called by a built-in. -/
namespace LamY
open PySem PySem.Spec PyProof.Rows L2 LamX
/-- one parameter, captured names, globals -/
structure LamS1 (sc scope : Scope) (a : Str) : Prop where
  kind : scope.kind = .function
  co : scope.isCoroutine = false
  gen : scope.isGenerator = false
  own : ∀ y ∈ scope.names, y.2 = .local → y.1 = a
  nocell : ∀ y ∈ scope.names, y.2 ≠ .cell
  par : scope.names.lookup a = some .local
  free : ∀ y ∈ scope.names, y.2 = .free → sc.names.lookup y.1 = some .cell ∨ sc.names.lookup y.1 = some .free
def lamS1B (sc scope : Scope) (a : Str) : Bool :=
  decide (scope.kind = .function) && !scope.isCoroutine && !scope.isGenerator && decide (scope.names.lookup a = some .local) && scope.names.all fun y => (!decide (y.2 = .local) || decide (y.1 = a)) && !decide (y.2 = .cell) && (!decide (y.2 = .free) || decide (sc.names.lookup y.1 = some .cell) || decide (sc.names.lookup y.1 = some .free))
theorem lamS1_by {sc scope : Scope} {a : Str} (h : lamS1B sc scope a = true) : LamS1 sc scope a := by
  unfold lamS1B at h
  simp only [Bool.and_eq_true, Bool.or_eq_true, Bool.not_eq_true', decide_eq_true_eq, decide_eq_false_iff_not, List.all_eq_true] at h
  obtain ⟨⟨⟨⟨h1, h2⟩, h3⟩, h5⟩, h4⟩ := h
  refine ⟨h1, h2, h3, fun y hy e => ?_, fun y hy => (h4 y hy).1.2, h5, fun y hy e => ?_⟩
  · rcases (h4 y hy).1.1 with z | z
    · exact absurd e z
    · exact z
  · rcases (h4 y hy).2 with (z | z) | z
    · exact absurd e z
    · exact .inl z
    · exact .inr z
theorem LamS1.has {X : Cx} {scope : Scope} {a : Str} (L : LamS1 X.env.scope scope a) (ok : X.Ok) : ∀ y ∈ scope.names, y.2 = .free → ∃ c, X.env.cells.lookup y.1 = some c := fun y hy e => by
  rcases L.free y hy e with k | k
  · exact ok.has _ (.inl k)
  · exact ok.has _ (.inr k)
/-- the context of the lambda's body, entered at s -/
def lamCx1 (X : Cx) (A : Around) (outer : List Env) (s : Shared) (H : Hp) (scope : Scope) (a : Str) (f c' : Addr) : Cx where
  prog := X.prog
  w := X.w
  K := X.K
  mg := X.mg
  base := X.base
  A := A.deeper (lamEnv X scope s.heap.objs.size f c')
  N := X.N ++ [a]
  s_0 := s
  H_0 := H
  env := lamEnv X scope s.heap.objs.size f c'
  outer := outer
  stack := lamEnv X scope s.heap.objs.size f c' :: outer
  ex := []
  fn := fun _ => false
  calm := true
  pn := []
  xe := fun _ _ => False
section
variable {X : Cx} {pins : List (Addr × Obj)} {σ : L2.St} {H : Hp} {s : Shared} {a : Str}
theorem lam_start1 {A : Around} {outer : List Env} {scope : Scope} {f c' : Addr} {h₁ : Heap} {tk : Nat} {v : V} {u : Value} (I : Inv X pins σ H s) (L : LamS1 X.env.scope scope a) (e0 : Env0 X.prog X.w X.K X.mg X.base A outer s H) (hd : A.handled = none) (hr : RelV v u)
    (hns : h₁.Ns s.heap.objs.size fun y => ([(a, u)] : List (Str × Value)).reverse.lookup y) (kp : ∀ b o, s.heap.get? b = some o → h₁.get? b = some o) (hN : a ∉ X.N) :
    Inv (lamCx1 X A outer s H scope a f c') [] (σ ++ [some v]) H { s with heap := h₁, toks := tk } := by
  have hfree := L.has I.ok
  have cm : ∀ {y c}, (cloFrom X.env.cells scope.names []).lookup y = some c → X.env.cells.lookup y = some c := fun {y c} e => by
    rcases cloFrom_mem (PySem.mem_of_lookup e) with hm | ⟨h1, h2⟩
    · cases hm
    · obtain ⟨c1, hc⟩ := hfree _ h1 rfl
      have hc : X.env.cells.lookup y = some c1 := hc
      have e2 : c = c1 := by
        rw [h2, hc] <;> rfl
      rw [e2]
      exact hc
  have look : ∀ {y}, scope.names.lookup y = some .free → ∃ c, (cloFrom X.env.cells scope.names []).lookup y = some c := fun {y} hl => by
    have hy : (y, NameKind.free) ∈ scope.names := PySem.mem_of_lookup hl
    exact mem_lookup (cloFrom_has (cells := X.env.cells) (acc := []) hy)
  have cellK : ∀ {c : Addr} {v : Option Value}, s.heap.IsCell c v → h₁.IsCell c v := fun {c v} ⟨o, ho, hd⟩ => ⟨_, kp _ _ ho, hd⟩
  have noA : ∀ b : Addr, b ∉ (lamCx1 X A outer s H scope a f c').ex := fun b z => absurd (show b ∈ ([] : List Addr) from z) (by simp)
  refine ⟨⟨e0.mod, L.kind, rfl, rfl, Nat.le_refl _, fun y z c e1 e2 => I.ok.inj y z c (cm e1) (cm e2), fun y hy => ?_, fun y c z _ => ?_, fun _ => hd, Around.frames_deeper e0.frames, .inr ⟨rfl, rfl⟩, fun b z => absurd z (noA b), e0.bs, e0.bsz, fun b _ _ => noA b,
      fun b z => absurd z (noA b), e0.funs, e0.frf⟩,
    rfl, e0.bare, Un.kept kp, ⟨_, hns, fun i y v1 e1 e2 e3 => ?_⟩, fun y c e => ?_, e0.hok.fresh (Nat.le_refl _), fun y c e => ?_, fun q hq => absurd (show q ∈ ([] : List (Addr × Obj)) ++ [] from hq) (by simp), e0.hok.kept kp, ?_⟩
  · have hy : scope.names.lookup y = some .cell ∨ scope.names.lookup y = some .free := hy
    rcases hy with hy | hy
    · exact absurd rfl (L.nocell _ (PySem.mem_of_lookup hy))
    · exact look hy
  · have z : false = true := z
    cases z
  · have e3 : Vis scope y := e3
    have e1 : (X.N ++ [a])[i]? = some y := e1
    rcases e3 with k | k | k
    · have ya : y = a := L.own _ (PySem.mem_of_lookup k) rfl
      subst ya
      have hi : i = X.N.length := by
        by_cases h : i < X.N.length
        · rw [List.getElem?_append_left h] at e1
          exact absurd (List.mem_of_getElem? e1) hN
        · have := (List.getElem?_eq_some_iff.mp e1).1
          rw [List.length_append] at this
          simp at this
          omega
      subst hi
      rw [← I.len, List.getElem?_append_right (Nat.le_refl _), Nat.sub_self] at e2
      cases e2
      refine ⟨u, hr, .inl ⟨L.par, ?_⟩⟩
      show ([(y, u)] : List (Str × Value)).reverse.lookup y = some u
      simp
    · exact absurd rfl (L.nocell _ (PySem.mem_of_lookup k))
    · have ya : y ≠ a := fun z => by
        rw [z, L.par] at k
        cases k
      have hi : i < X.N.length := by
        by_cases h : i < X.N.length
        · exact h
        · exfalso
          rw [List.getElem?_append_right (by omega)] at e1
          cases hk : i - X.N.length with
          | zero => rw [hk] at e1; cases e1; exact ya rfl
          | succ n => rw [hk] at e1; cases e1
      rw [List.getElem?_append_left hi] at e1
      rw [List.getElem?_append_left (by rw [I.len]; exact hi)] at e2
      obtain ⟨m, hn, hl⟩ := I.loc
      have hvis : Vis X.env.scope y := (L.free _ (PySem.mem_of_lookup k) rfl).elim (fun k => .inr (.inl k)) (fun k => .inr (.inr k))
      obtain ⟨w', r, q⟩ := hl i y v1 e1 e2 hvis
      obtain ⟨c2, h2⟩ := look k
      refine ⟨w', r, .inr ⟨.inr k, c2, h2, ?_⟩⟩
      have c1 := cm h2
      rcases q with ⟨k', _⟩ | ⟨_, c3, e', z⟩
      · have k' : X.env.scope.names.lookup y = some .local := k'
        rcases L.free _ (PySem.mem_of_lookup k) rfl with k2 | k2 <;> rw [show X.env.scope.names.lookup y = _ from k2] at k' <;> cases k'
      · rw [c1] at e'
        cases e'
        exact cellK z
  · obtain ⟨w', z⟩ := I.cell y c (cm e)
    exact ⟨w', cellK z⟩
  · exact I.freeC y c (cm e)
  · rw [List.length_append, I.len]
    show _ = (X.N ++ [a]).length
    rw [List.length_append]
    rfl
/-- the call f(v), f the lambda, from within the def that made it -/
theorem lam_call1 {A : Around} {f c' : Addr} {pm ctv : Value} {params : Arguments} {body : Expr} {scope : Scope} {k : Nat} {tb : TE} {v : V} {u : Value} {Q : VK} (I : Inv X pins σ H s) (L : LamS1 X.env.scope scope a) (hN : a ∉ X.N)
    (hf : s.heap.get? f = some (PySem.W.kla_obj "<lambda>" (X.env.qual ++ "<lambda>") params body scope (cloFrom X.env.cells scope.names []) pm c' ctv)) (hco : H c' = some (CodeO c' (X.env.qual ++ "<lambda>")))
    (hbind : bindArgs (PySem.W.kla_fn "<lambda>" (X.env.qual ++ "<lambda>") params body scope (cloFrom X.env.cells scope.names []) pm (.ref c') ctv) ⟨[u], []⟩ = pure [(a, u)])
    (hr : Room (k + 1) A) (hfr : A.frames = X.A.frames)
    (hbody : ∀ (A : Around) (outer : List Env) (s : Shared) (H : Hp), Room k (A.deeper (lamEnv X scope s.heap.objs.size f c')) → PE (lamCx1 X A outer s H scope a f c') body tb)
    (rv : RelV v u) (ht : tb (σ ++ [some v]) H Q) :
    wpAny (model X.prog X.w) A (call (.ref f) [u]) (fun z s' => ∃ y H', Inv X pins σ H' s' ∧ Un (frs X.stack) [] H H' s.heap s'.heap ∧ RelV y z ∧ Q y H') (fun _ _ => False) s := by
  have e0 : Env0 X.prog X.w X.K X.mg X.base A X.stack s H := by
    have z := I.env0
    exact ⟨hfr.trans z.frames, z.mod, z.bs, z.bsz, z.funs, z.frf, z.hok, z.bare⟩
  obtain ⟨⟨oc, vs, t, hoc, hdc, hvc⟩, _, _⟩ := I.hok c' _ hco
  have rc : codeAny (model X.prog X.w) A (.call (.ref f) ⟨[u], []⟩) (CR C8.CX0 X.stack X.prog X.w H s Q C8.E0) s := by
    refine PySem.W.kla_callFunE hr.depth hf rfl L.co L.gen rfl ⟨c', oc, vs, t, rfl, hoc, hdc, hvc⟩ ?_
    rw [hbind]
    refine wpAny_pure (wpAny_newFunctionEnv (fun y hy => L.nocell y hy) (fun y hy => ?_) (fun h₁ hns hsb => ⟨I.nolimit.fresh _ hsb, ?_⟩) L.kind)
    · have : y = (a, u) := by simpa using hy
      rw [this]
      exact L.par
    · show codeAny _ _ (.expr body (lamEnv X scope s.heap.objs.size f c')) _ _
      have kp : ∀ b o, s.heap.get? b = some o → h₁.get? b = some o := fun b o e => hsb.extBut b o (Nat.ne_of_lt (Heap.lt_size e)) (Heap.get?_push_of_some _ e)
      have J : Inv (lamCx1 X A X.stack s H scope a f c') [] (σ ++ [some v]) H { s with heap := h₁, toks := s.toks + ([(a, u)] : List (Str × Value)).length } :=
        lam_start1 I L e0 hr.hd rv hns kp hN
      refine PySem.W.kla_codeExpr (wpAny_mono ((hbody A X.stack s H (hr.deeper _)).run [] _ _ H Q J ht) (fun v s' hq => ?_) fun e s' hq => hq.elim)
      obtain ⟨w', H', J', rv, q⟩ := hq
      exact ⟨w', H', J'.os, J'.bare, J'.base, J'.hok, rv, q⟩
  refine wpAny_call (codeAny_mono rc fun r s' hq => ?_)
  cases r with
  | error e => exact (show False from hq).elim
  | ok fl =>
    cases fl with
    | ret z =>
      have hq : CE X.stack X.prog X.w H s Q z s' := hq
      obtain ⟨y, H', os, bare, un, hok, ry, q⟩ := hq
      refine ⟨y, H', ?_, un, ry, q⟩
      obtain ⟨hh, g, d, t, os'⟩ := s'
      obtain rfl : os' = s.os := os
      exact I.call (h' := hh) (g' := g) (d' := d) (t' := t) (ch := []) un hok bare (fun b z => absurd z (by simp))
    | next => exact False.elim hq
    | brk => exact False.elim hq
    | cont => exact False.elim hq
end
end LamY

set_option Elab.async false
set_option linter.all false
set_option maxRecDepth 100000
set_option maxHeartbeats 2000000
/-! min(xs, key=lambda ..), sorted(range(n), key=lambda ..). -/
namespace LamY
open PySem PySem.Spec PyProof.Rows L2 LamX
/-- without the list at l -/
def dropH (H : Hp) (l : Addr) : Hp := fun b => if b = l then none else H b
theorem dropH_ne {H : Hp} {l b : Addr} (h : b ≠ l) : dropH H l b = H b := if_neg h
theorem dropH_at {H : Hp} {l : Addr} : dropH H l l = none := if_pos rfl
theorem dropH_none {H : Hp} {l b : Addr} (h : H b = none) : dropH H l b = none := by
  by_cases e : b = l
  · rw [e]; exact dropH_at
  · rw [dropH_ne e]; exact h
theorem dropH_sub {H : Hp} {l b : Addr} {o : HO} (h : dropH H l b = some o) : H b = some o ∧ b ≠ l := by
  by_cases e : b = l
  · rw [e, dropH_at] at h; cases h
  · rw [dropH_ne e] at h; exact ⟨h, e⟩
theorem hok_drop {P : Program} {w : World} {H : Hp} {h : Heap} {l : Addr} (hl : H l = none ∨ ∃ xs, H l = some (.lst xs)) (k : HOk P w H h) : HOk P w (dropH H l) h := fun a o e => by
  obtain ⟨e, _⟩ := dropH_sub e
  have ne : ∀ {b : Addr} {u : HO}, H b = some u → (∀ xs, u ≠ .lst xs) → b ≠ l := fun {b u} q n z => by
    rw [z] at q
    rcases hl with z2 | ⟨xs, z2⟩
    · rw [z2] at q; cases q
    · rw [z2] at q; exact n xs (Option.some.inj q).symm
  exact (k a o e).stay (fun _ _ _ q => q) (fun b q => by rw [dropH_ne (ne q (fun xs z => by cases z))]; exact q) fun b xs q => by rw [dropH_ne (ne q (fun xs z => by cases z))]; exact q
section
variable {X : Cx} {pins : List (Addr × Obj)} {σ : L2.St} {H : Hp} {s : Shared} {a : Str}
theorem lam_startD {A : Around} {outer : List Env} {scope : Scope} {f c' l : Addr} {h₁ : Heap} {tk : Nat} {v : V} {u : Value} (I : Inv X pins σ H s) (L : LamS1 X.env.scope scope a) (e0 : Env0 X.prog X.w X.K X.mg X.base A outer s (dropH H l)) (hd : A.handled = none) (hr : RelV v u)
    (hns : h₁.Ns s.heap.objs.size fun y => ([(a, u)] : List (Str × Value)).reverse.lookup y) (kp : ∀ b o, s.heap.get? b = some o → h₁.get? b = some o) (hN : a ∉ X.N) :
    Inv (lamCx1 X A outer s (dropH H l) scope a f c') [] (σ ++ [some v]) (dropH H l) { s with heap := h₁, toks := tk } := by
  have hfree := L.has I.ok
  have cm : ∀ {y c}, (cloFrom X.env.cells scope.names []).lookup y = some c → X.env.cells.lookup y = some c := fun {y c} e => by
    rcases cloFrom_mem (PySem.mem_of_lookup e) with hm | ⟨h1, h2⟩
    · cases hm
    · obtain ⟨c1, hc⟩ := hfree _ h1 rfl
      have hc : X.env.cells.lookup y = some c1 := hc
      have e2 : c = c1 := by
        rw [h2, hc] <;> rfl
      rw [e2]
      exact hc
  have look : ∀ {y}, scope.names.lookup y = some .free → ∃ c, (cloFrom X.env.cells scope.names []).lookup y = some c := fun {y} hl => by
    have hy : (y, NameKind.free) ∈ scope.names := PySem.mem_of_lookup hl
    exact mem_lookup (cloFrom_has (cells := X.env.cells) (acc := []) hy)
  have cellK : ∀ {c : Addr} {v : Option Value}, s.heap.IsCell c v → h₁.IsCell c v := fun {c v} ⟨o, ho, hd⟩ => ⟨_, kp _ _ ho, hd⟩
  have noA : ∀ b : Addr, b ∉ (lamCx1 X A outer s (dropH H l) scope a f c').ex := fun b z => absurd (show b ∈ ([] : List Addr) from z) (by simp)
  refine ⟨⟨e0.mod, L.kind, rfl, rfl, Nat.le_refl _, fun y z c e1 e2 => I.ok.inj y z c (cm e1) (cm e2), fun y hy => ?_, fun y c z _ => ?_, fun _ => hd, Around.frames_deeper e0.frames, .inr ⟨rfl, rfl⟩, fun b z => absurd z (noA b), e0.bs, e0.bsz, fun b _ _ => noA b,
      fun b z => absurd z (noA b), e0.funs, e0.frf⟩,
    rfl, e0.bare, Un.kept kp, ⟨_, hns, fun i y v1 e1 e2 e3 => ?_⟩, fun y c e => ?_, e0.hok.fresh (Nat.le_refl _), fun y c e => ?_, fun q hq => absurd (show q ∈ ([] : List (Addr × Obj)) ++ [] from hq) (by simp), e0.hok.kept kp, ?_⟩
  · have hy : scope.names.lookup y = some .cell ∨ scope.names.lookup y = some .free := hy
    rcases hy with hy | hy
    · exact absurd rfl (L.nocell _ (PySem.mem_of_lookup hy))
    · exact look hy
  · have z : false = true := z
    cases z
  · have e3 : Vis scope y := e3
    have e1 : (X.N ++ [a])[i]? = some y := e1
    rcases e3 with k | k | k
    · have ya : y = a := L.own _ (PySem.mem_of_lookup k) rfl
      subst ya
      have hi : i = X.N.length := by
        by_cases h : i < X.N.length
        · rw [List.getElem?_append_left h] at e1
          exact absurd (List.mem_of_getElem? e1) hN
        · have := (List.getElem?_eq_some_iff.mp e1).1
          rw [List.length_append] at this
          simp at this
          omega
      subst hi
      rw [← I.len, List.getElem?_append_right (Nat.le_refl _), Nat.sub_self] at e2
      cases e2
      refine ⟨u, hr, .inl ⟨L.par, ?_⟩⟩
      show ([(y, u)] : List (Str × Value)).reverse.lookup y = some u
      simp
    · exact absurd rfl (L.nocell _ (PySem.mem_of_lookup k))
    · have ya : y ≠ a := fun z => by
        rw [z, L.par] at k
        cases k
      have hi : i < X.N.length := by
        by_cases h : i < X.N.length
        · exact h
        · exfalso
          rw [List.getElem?_append_right (by omega)] at e1
          cases hk : i - X.N.length with
          | zero => rw [hk] at e1; cases e1; exact ya rfl
          | succ n => rw [hk] at e1; cases e1
      rw [List.getElem?_append_left hi] at e1
      rw [List.getElem?_append_left (by rw [I.len]; exact hi)] at e2
      obtain ⟨m, hn, hl⟩ := I.loc
      have hvis : Vis X.env.scope y := (L.free _ (PySem.mem_of_lookup k) rfl).elim (fun k => .inr (.inl k)) (fun k => .inr (.inr k))
      obtain ⟨w', r, q⟩ := hl i y v1 e1 e2 hvis
      obtain ⟨c2, h2⟩ := look k
      refine ⟨w', r, .inr ⟨.inr k, c2, h2, ?_⟩⟩
      have c1 := cm h2
      rcases q with ⟨k', _⟩ | ⟨_, c3, e', z⟩
      · have k' : X.env.scope.names.lookup y = some .local := k'
        rcases L.free _ (PySem.mem_of_lookup k) rfl with k2 | k2 <;> rw [show X.env.scope.names.lookup y = _ from k2] at k' <;> cases k'
      · rw [c1] at e'
        cases e'
        exact cellK z
  · obtain ⟨w', z⟩ := I.cell y c (cm e)
    exact ⟨w', cellK z⟩
  · exact dropH_none (I.freeC y c (cm e))
  · rw [List.length_append, I.len]
    show _ = (X.N ++ [a]).length
    rw [List.length_append]
    rfl
/-- the call f(v), f the lambda, from within the def that made it; the list at l is not looked at -/
theorem lam_callD {A : Around} {f c' l : Addr} {pm ctv : Value} {params : Arguments} {body : Expr} {scope : Scope} {k : Nat} {tb : TE} {v : V} {u : Value} {y : V} (hl : H l = none ∨ ∃ xs, H l = some (.lst xs)) (I : Inv X pins σ H s) (L : LamS1 X.env.scope scope a) (hN : a ∉ X.N)
    (hf : s.heap.get? f = some (PySem.W.kla_obj "<lambda>" (X.env.qual ++ "<lambda>") params body scope (cloFrom X.env.cells scope.names []) pm c' ctv)) (hco : H c' = some (CodeO c' (X.env.qual ++ "<lambda>")))
    (hbind : bindArgs (PySem.W.kla_fn "<lambda>" (X.env.qual ++ "<lambda>") params body scope (cloFrom X.env.cells scope.names []) pm (.ref c') ctv) ⟨[u], []⟩ = pure [(a, u)])
    (hr : Room (k + 1) A) (hfr : A.frames = X.A.frames)
    (hbody : ∀ (A : Around) (outer : List Env) (s : Shared) (H : Hp), Room k (A.deeper (lamEnv X scope s.heap.objs.size f c')) → PE (lamCx1 X A outer s H scope a f c') body tb)
    (rv : RelV v u) (ht : tb (σ ++ [some v]) (dropH H l) fun y' H' => y' = y ∧ H' = dropH H l) :
    wpAny (model X.prog X.w) A (call (.ref f) [u]) (fun z s' => Inv X pins σ H s' ∧ RelV y z ∧ s'.gens = s'.gens ∧ ∀ b o, s.heap.get? b = some o → (H b = none ∨ b = l) → b ∉ frs X.stack → s'.heap.get? b = some o) (fun _ _ => False) s := by
  have lst : l ∉ frs X.stack ∨ H l = none := by
    rcases hl with z | ⟨xs, z⟩
    · exact .inr z
    · refine .inl fun q => ?_
      rw [I.stkFree l q] at z
      cases z
  have hc2 : dropH H l c' = some (CodeO c' (X.env.qual ++ "<lambda>")) := by
    rw [dropH_ne]
    · exact hco
    · intro z
      rw [z] at hco
      rcases hl with z | ⟨xs, z⟩
      · rw [z] at hco; cases hco
      · rw [z] at hco
        unfold CodeO at hco
        cases hco
  have e0 : Env0 X.prog X.w X.K X.mg X.base A X.stack s (dropH H l) := by
    have z := I.env0
    exact ⟨hfr.trans z.frames, z.mod, fun b o e => ⟨(z.bs b o e).1, dropH_none (z.bs b o e).2⟩, z.bsz, z.funs, fun b hb => dropH_none (z.frf b hb), hok_drop hl z.hok, z.bare⟩
  obtain ⟨⟨oc, vs, t, hoc, hdc, hvc⟩, _, _⟩ := I.hok c' _ hco
  have rc : codeAny (model X.prog X.w) A (.call (.ref f) ⟨[u], []⟩) (CR C8.CX0 X.stack X.prog X.w (dropH H l) s (fun y' H' => y' = y ∧ H' = dropH H l) C8.E0) s := by
    refine PySem.W.kla_callFunE hr.depth hf rfl L.co L.gen rfl ⟨c', oc, vs, t, rfl, hoc, hdc, hvc⟩ ?_
    rw [hbind]
    refine wpAny_pure (wpAny_newFunctionEnv (fun y hy => L.nocell y hy) (fun y hy => ?_) (fun h₁ hns hsb => ⟨I.nolimit.fresh _ hsb, ?_⟩) L.kind)
    · have : y = (a, u) := by simpa using hy
      rw [this]
      exact L.par
    · show codeAny _ _ (.expr body (lamEnv X scope s.heap.objs.size f c')) _ _
      have kp : ∀ b o, s.heap.get? b = some o → h₁.get? b = some o := fun b o e => hsb.extBut b o (Nat.ne_of_lt (Heap.lt_size e)) (Heap.get?_push_of_some _ e)
      have J : Inv (lamCx1 X A X.stack s (dropH H l) scope a f c') [] (σ ++ [some v]) (dropH H l) { s with heap := h₁, toks := s.toks + ([(a, u)] : List (Str × Value)).length } :=
        lam_startD I L e0 hr.hd rv hns kp hN
      refine PySem.W.kla_codeExpr (wpAny_mono ((hbody A X.stack s (dropH H l) (hr.deeper _)).run [] _ _ (dropH H l) _ J ht) (fun v s' hq => ?_) fun e s' hq => hq.elim)
      obtain ⟨w', H', J', rv, q⟩ := hq
      exact ⟨w', H', J'.os, J'.bare, J'.base, J'.hok, rv, q⟩
  refine wpAny_call (codeAny_mono rc fun r s' hq => ?_)
  cases r with
  | error e => exact (show False from hq).elim
  | ok fl =>
    cases fl with
    | ret z =>
      have hq : CE X.stack X.prog X.w (dropH H l) s (fun y' H' => y' = y ∧ H' = dropH H l) z s' := hq
      obtain ⟨y', H', os, bare, un, hok, ry, q1, q2⟩ := hq
      subst q1 q2
      have kept : ∀ b o, s.heap.get? b = some o → (H b = none ∨ b = l) → b ∉ frs X.stack → s'.heap.get? b = some o := fun b o e hb hf => un.keep b o e (by
        rcases hb with z | z
        · exact dropH_none z
        · rw [z]; exact dropH_at) hf (by simp)
      refine ⟨?_, ry, rfl, kept⟩
      have hokH : HOk X.prog X.w H s'.heap := fun b u e => by
        by_cases hb : b = l
        · subst hb
          rcases hl with z | ⟨xs, z⟩
          · rw [z] at e; cases e
          · rw [z] at e
            cases e
            obtain ⟨h1, its, n, h2, h3⟩ := I.hok b _ z
            refine ⟨h1, its, n, h2, kept b _ h3 (.inr rfl) ?_⟩
            intro q
            rw [I.stkFree b q] at z
            cases z
        · refine (hok b u (by rw [dropH_ne hb]; exact e)).stay (fun _ _ _ q => q) (fun d q => (dropH_sub q).1) fun d xs q => (dropH_sub q).1
      obtain ⟨hh, g, d, t, os'⟩ := s'
      obtain rfl : os' = s.os := os
      refine I.call (h' := hh) (g' := g) (d' := d) (t' := t) (ch := []) ⟨fun b o e n f x => un.keep b o e (dropH_none n) f x, fun b o e n f x => un.slot b o e (dropH_none n) f x, fun b o e n x => n, un.there, fun b xs q => q, fun b o u q => q, fun b ps q => ⟨#[], by rw [q]; simp⟩⟩ hokH bare (fun b z => absurd z (by simp))
    | next => exact False.elim hq
    | brk => exact False.elim hq
    | cont => exact False.elim hq
end
end LamY

set_option Elab.async false
set_option linter.all false
set_option maxRecDepth 100000
set_option maxHeartbeats 2000000
namespace LamY
open PySem PySem.W PySem.Spec PyProof.Rows L2 LamX
def tMinK (T : List (Addr × Str)) (ta : TA) (tb : TE) : TE := fun σ H Q => ta σ H fun xs H1 => ∃ (a : Addr) (ns : List Int) (kf : Int → Int), xs = [.ref a] ∧ H1 a = some (.lst (ns.map V.int)) ∧ Tabs T H1 ∧
  ∀ H2, ExtN H1 H2 → Tabs T H2 → (∀ n ∈ ns, tb (σ ++ [some (.int n)]) (dropH H2 a) fun y H' => y = .int (kf n) ∧ H' = dropH H2 a) ∧ (ns = [] → Q .non H2) ∧ (∀ m ∈ ns, (∀ n ∈ ns, kf m ≤ kf n) → Q (.int m) H2)
theorem moved_inv {X : Cx} {pins : List (Addr × Obj)} {σ : L2.St} {H : Hp} {s s' : Shared} {ch : List Addr} (I : Inv X pins σ H s) (m : Moved ch (fun a b => b = a) s s') (hf : ∀ b ∈ ch, FpOk X pins H b) : Inv X pins σ H s' := by
  obtain ⟨h', g, d, t, os⟩ := s'
  obtain ⟨m1, m2, m3, m4, m5⟩ := m
  have m2 : g = s.gens := m2
  have m3 : d = s.drawn := m3
  have m4 : os = s.os := m4
  subst m2 m3 m4
  exact I.turnedL (h' := h') (t' := t) m1 hf
section
variable {X : Cx}
theorem pe_minKey {T : List (Addr × Str)} {c P : Addr} {a : Str} {k : Nat} {params : Arguments} {body : Expr} {scope : Scope} {ta : TA} {tb : TE} {e : Expr} {lpos p pos kp1 kp2 dpos : Pos} {kk : Nat} (hc : X.calm = true) (hg : Gl X "min") (hm : X.mg "min" = none) (ha : PA X [e] ta)
    (TB : TabB X.base X.mg c P) (hcode : X.env.code = .ref c) (hmT : (P, X.env.qual ++ "<lambda>") ∈ T) (hu : ∀ p ∈ T, p.1 = P → p.2 = X.env.qual ++ "<lambda>") (hr : Room (k + 2) X.A) (L : LamS1 X.env.scope scope a) (hN : a ∉ X.N) (hdef : defaultsOf params X.env = ([], []))
    (hbind : ∀ (q : Str) (cl : List (Str × Addr)) (pm cv ctv u : Value), bindArgs (PySem.W.kla_fn "<lambda>" q params body scope cl pm cv ctv) ⟨[u], []⟩ = pure [(a, u)])
    (hbody : ∀ (A : Around) (outer : List Env) (s : Shared) (H : Hp) (f c' : Addr), Room k (A.deeper (lamEnv X scope s.heap.objs.size f c')) → PE (lamCx1 X A outer s H scope a f c') body tb)
    (he : backTo pos (starEach [e] X.env) = (false, eval e X.env) :: backTo pos (starEach [] X.env) := by rfl) (hpl : (backTo pos (starEach [e] X.env)).any (·.1) = false := by rfl) :
    PE X (.Call (.Name "min" p) [e] [⟨some "key", .Lambda params body scope lpos, kp1⟩, ⟨some "default", .Constant .none kk dpos, kp2⟩] pos) (tMinK T ta tb) := by
  refine ⟨fun pins s σ H Q I h => ?_⟩
  have hX : ∀ (e : Value) (s : Shared), (fun _ _ => False : Value → Shared → Prop) e s → X.xe e s := fun _ _ z => z.elim
  refine wpAny_Call_Name_kw (ld_blt I hg hm (show bootBuiltins "min" = some (.builtin "min") from Fn.bt_min) ?_)
  refine PyProof.Rows.callWith_kw (thn (ha.run pos pins s σ H _ I h) fun us s1 ⟨xs, H1, I1, r1, q1⟩ => ?_) he hpl (by rfl) (by rfl)
  obtain ⟨al, ns, kf, rfl, hal, hT, q⟩ := q1
  obtain rfl := Vals.ref1 r1
  show wpAny _ _ (evalAll ((do let v ← eval (.Lambda params body scope lpos) X.env; standAt pos; pure v) :: (do let v ← eval (.Constant .none kk dpos) X.env; standAt pos; pure v) :: [])) _ _ s1
  refine wpAny_evalAll_cons (wpAny_bind (lam_make2 I1 TB hcode hmT hu hT hdef (L.has I1.ok) fun f c' pm ctv H2 s2 I2 eN T2 hf hfn hfr hco => wpAny_bind (wpAny_standAt (wpAny_pure ?_))))
  refine wpAny_evalAll_cons (wpAny_bind (Constant_none (wpAny_bind (wpAny_standAt (wpAny_pure ?_)))))
  refine wpAny_evalAll_nil ?_
  show wpAny _ _ (call (.builtin "min") [.ref al] [(Str.ofString "key", .ref f), (Str.ofString "default", .none)]) _ _ s2
  obtain ⟨qb, q0, qm⟩ := q H2 eN T2
  have hal3 : H2 al = some (.lst (ns.map V.int)) := eN _ _ hal (fun ps z => by cases z)
  have hf3 := hf
  obtain ⟨hz, its, nn, rv, hl⟩ := I2.hok al _ hal3
  have hIs : s2.heap.IsList al its.toArray := ⟨_, hl, rfl, nn, rfl⟩
  have hh : X.A.in1.handled = none := I2.ok.hd hc
  have fresh : ∀ {b : Addr} {o : Obj}, s2.heap.get? b = some o → b < s2.heap.objs.size := fun e => Heap.lt_size e
  refine call_min_walkKD (iter_listW hh hIs fun s4 hs4 W st0 hfp hnew hkeep => ?_)
  have I4 : Inv X pins σ H2 s4 := by
    rw [hs4]
    exact I2.kept (t' := s2.toks) fun b o e => Heap.get?_push_of_some _ e
  have hsz4 : s4.heap.objs.size = s2.heap.objs.size + 1 := by rw [hs4]; exact Heap.size_push _ _
  have fp1 : FpOk X pins H2 s2.heap.objs.size := I2.fpOk (Nat.le_refl _) (I2.hok.fresh (Nat.le_refl _))
  have fp2 : FpOk X pins H2 s4.heap.objs.size := I4.fpOk (Nat.le_refl _) (I4.hok.fresh (Nat.le_refl _))
  have fpa : ∀ b ∈ [s4.heap.objs.size, s2.heap.objs.size], FpOk X pins H2 b := fun b hb => by
    rcases List.mem_cons.mp hb with rfl | hb
    · exact fp2
    · rcases List.mem_cons.mp hb with rfl | hb
      · exact fp1
      · cases hb
  have nf : f ∉ [s4.heap.objs.size, s2.heap.objs.size] := fun hb => by
    have h1 := fresh hf3
    rcases List.mem_cons.mp hb with e | hb
    · rw [e, hsz4] at h1
      exact Nat.lt_irrefl _ (Nat.lt_of_succ_lt h1)
    · rcases List.mem_cons.mp hb with e | hb
      · rw [e] at h1
        exact Nat.lt_irrefl _ h1
      · cases hb
  have nstk : ∀ b ∈ [s4.heap.objs.size, s2.heap.objs.size], b ∉ frs X.stack := fun b hb z => by
    have q1 := fpa b hb
    rcases List.mem_cons.mp (I2.stkSub _ z) with e | e
    · exact q1.2.1 e
    · exact q1.2.2.1 e
  have rvn : ∀ i v, its.toArray[i]? = some v → ∃ t, v = .int (ns.getD i 0) t ∧ ns.getD i 0 ∈ ns := fun i v hv => by
    rw [List.getElem?_toArray] at hv
    cases q : (ns.map V.int)[i]? with
    | none =>
      have := rv.none_of q
      rw [this] at hv
      cases hv
    | some x =>
      obtain ⟨u, h1, h2⟩ := rv.get q
      rw [h1] at hv
      cases hv
      rw [List.getElem?_map] at q
      cases q2 : ns[i]? with
      | none => rw [q2] at q; cases q
      | some n =>
        rw [q2] at q
        cases q
        obtain ⟨t, rfl⟩ := h2
        rw [List.getD_eq_getElem?_getD, q2]
        exact ⟨t, rfl, List.mem_of_getElem? q2⟩
  refine ⟨_, _, _, _, _, _, _, fun s' => Inv X pins σ H2 s' ∧ s'.heap.get? f = some (PySem.W.kla_obj "<lambda>" (X.env.qual ++ "<lambda>") params body scope (cloFrom X.env.cells scope.names []) pm c' ctv),
    fun i k _ => ∃ t, k = .int (kf (ns.getD i 0)) t, fun i j => decide (kf (ns.getD i 0) < kf (ns.getD j 0)), rfl, W, st0, hfp, ?_, ⟨I4, hkeep _ _ hf3⟩, ?_, ?_⟩
  · refine ⟨fun s s' ⟨J, jf⟩ m => ⟨moved_inv J m fpa, m.heap _ _ nf jf⟩, fun i k s s' v _ => v, fun i v s o Q E hi hv ⟨J, jf⟩ st hS hQ => ?_, fun i j ki kj s Q E _ ⟨t1, e1⟩ ⟨t2, e2⟩ hQ => ?_⟩
    · obtain ⟨t, rfl, hmem⟩ := rvn i v hv
      refine wpAny_mono (lam_callD (l := al) (A := X.A.in1) (.inr ⟨_, hal3⟩) J L hN jf ?_ (hbind _ _ _ _ _ _) hr.in1 rfl (fun A outer s H hr2 => hbody A outer s H f c' hr2) (v := .int (ns.getD i 0)) ⟨t, rfl⟩ (qb _ hmem)) (fun z s' hz => ?_) fun _ _ z => z.elim
      · exact (hco : _)
      · obtain ⟨I5, ⟨t5, rfl⟩, _, kp⟩ := hz
        have lf : f ∉ frs X.stack := hfr
        have nI : H2 s2.heap.objs.size = none := fp1.1
        refine hQ _ s' ⟨I5, kp f _ jf (.inl ?_) hfr⟩ ⟨st.1.at fun o e => kp _ o e (.inl nI) (nstk _ (by simp)), st.2.at fun o e => kp _ o e (.inr rfl) (fun z => ?_)⟩ (kp _ o hS (.inl fp2.1) (nstk _ (by simp))) ⟨t5, rfl⟩ fun j k' v => v
        · exact hfn
        · have := I2.stkFree _ z
          rw [hal3] at this
          cases this
    · subst e1 e2
      exact CmpOf.ints_lt (prog := X.prog) (w := X.w) (A := X.A.in1) (P := fun i v => ∃ t, v = .int (kf (ns.getD i 0)) t) (fun i => kf (ns.getD i 0)) (fun i v h => h) i j _ _ s Q E ⟨t1, rfl⟩ ⟨t2, rfl⟩ hQ
  · intro hn s' ⟨J, _⟩
    have : ns = [] := by
      have h1 := rv.length
      have : its.length = 0 := by simpa using hn
      rw [List.length_map, this] at h1
      exact List.length_eq_zero_iff.mp h1
    exact ⟨.non, H2, J, rfl, q0 this⟩
  · intro hn v s' hv ⟨J, _⟩
    obtain ⟨t, rfl, hmem⟩ := rvn _ _ hv
    refine ⟨.int _, H2, J, ⟨t, rfl⟩, qm _ hmem fun n hn' => ?_⟩
    obtain ⟨b1, b2⟩ := argBest_lt (fun i => kf (ns.getD i 0)) (its.toArray.size - 1)
    obtain ⟨j, hj, ej⟩ := List.getElem_of_mem hn'
    have h1 := rv.length
    rw [List.length_map] at h1
    have := b2 j (by rw [List.size_toArray]; omega)
    rw [show ns.getD j 0 = n from by rw [List.getD_eq_getElem?_getD, List.getElem?_eq_getElem hj]; exact ej] at this
    exact this
end
end LamY

set_option Elab.async false
set_option linter.all false
set_option maxRecDepth 100000
set_option maxHeartbeats 4000000
namespace LamY
open PySem PySem.W PySem.Spec PyProof.Rows L2 LamX
section
variable {prog : Program} {w : World} {A : Around} {E : Value → Shared → Prop} {s : Shared} {a kS : Addr} {vs : List Value} {e1 : Nat} {P : PySem.Fin → Shared → Prop} {kz : List Int} {J : Shared → Prop}
theorem alike_kz (kz : List Int) : AllAlike (kz.map PyData.int) := AllAlike.of fun b b' => by unfold alike; rfl
theorem sortable_kz (kz : List Int) : Sortable (kz.map PyData.int) := Sortable.others (enc := PyData.int) fun b => ⟨(fun z => by cases z), (fun xs z => by cases z)⟩
theorem readsInt {h : Heap} (n : Int) (t : Tok) : Reads h (.int n t) (.int n) [] := .int n t
theorem each_ints {h : Heap} : ∀ {L : List Value} {kz : List Int}, EachIs (fun v (k : Int) => ∃ t, v = Value.int k t) L kz → EachIs (fun v d => ∃ as, Reads h v d as) L (kz.map PyData.int)
  | _, _, .nil => EachIs.nil
  | _, _, .cons q t => by
    obtain ⟨t0, rfl⟩ := q
    exact EachIs.cons ⟨[], readsInt _ _⟩ (each_ints t)
theorem keyJ_rest {f : Value} (hka : kS ≠ a) (jc : ∀ (s : Shared) (h' : Heap) (tk : Nat), J s → (∀ b o, b ≠ kS → b ≠ a → s.heap.get? b = some o → h'.get? b = some o) → J { s with heap := h', toks := tk })
    (hJ : J s) (nk : s.heap.get? kS = some (seqObj "list" #[] 0)) (na : s.heap.get? a = some (seqObj "list" #[] e1)) (hlen : kz.length = vs.length) (hZ : vs.length ≤ sizeLine) (hu : A.units + 1 < cLine)
    (turn : ∀ (i : Nat) (v : Value) (k : Int), vs[i]? = some v → kz[i]? = some k → ∀ (s : Shared) (o1 o2 : Obj), J s → s.heap.get? kS = some o1 → s.heap.get? a = some o2 →
      wpAny (model prog w) A (call f [v]) (fun z s' => J s' ∧ (∃ t, z = .int k t) ∧ s'.heap.get? kS = some o1 ∧ s'.heap.get? a = some o2) (fun _ _ => False) s)
    (h : ∀ s' out c, J s' → s'.heap.get? a = some (seqObj "list" (List.toArray out) c) → KeyedOut false (kz.map PyData.int) vs out → P (.done (.ret .none)) s') :
    wpAny (model prog w) A (ksk_rest a f false vs.toArray e1 (.ref kS)) P E s := by
  unfold ksk_rest
  refine wpAny_bind (wpAny_rule ?_)
  first
    | rw [List.forIn_toArray]
    | (rw [← Array.forIn_toList]; simp only [List.toList_toArray])
    | rw [← Array.forIn_toList]
  refine wpAny_bind (ksk_fold (fun i s' => ∃ kA e, J s' ∧ s'.heap.get? kS = some (seqObj "list" kA e) ∧ s'.heap.get? a = some (seqObj "list" #[] e1) ∧ EachIs (fun v (k : Int) => ∃ t, v = Value.int k t) kA.toList (kz.take i)) vs 0 s
    ⟨#[], 0, hJ, nk, na, by rw [List.take_zero]; exact EachIs.nil⟩ ?step ?done)
  case step =>
    rintro j x s' hx ⟨kA, e, hJ', nk', na', hk⟩
    simp only [Nat.zero_add] at hk ⊢
    have hj : j < vs.length := (List.getElem?_eq_some_iff.mp hx).1
    obtain ⟨k, hkj⟩ : ∃ k, kz[j]? = some k := ⟨_, List.getElem?_eq_getElem (by omega)⟩
    have hz : kA.size ≤ vs.length := by
      have h1 := hk.length
      rw [Array.length_toList, List.length_take] at h1
      omega
    refine wpAny_bind (wpAny_attempt (wpAny_mono (turn j x k hx hkj s' _ _ hJ' nk' na') (fun v s2 he => ?_) fun _ _ hF => hF.elim))
    obtain ⟨J2, ⟨t, rfl⟩, nk2, na2⟩ := he
    try dsimp only
    have s1 := Heap.SameBut.update s2.heap kS (Obj.mapSeq (·.push (Value.int k t)))
    obtain ⟨c2, hc2⟩ : ∃ c2, (s2.heap.update kS (Obj.mapSeq (·.push (Value.int k t)))).get? kS = some (seqObj "list" (kA.push (Value.int k t)) c2) := ⟨_, get?_update_seq nk2 (·.push (Value.int k t))⟩
    have ek : kz.take (j + 1) = kz.take j ++ [k] := by rw [List.take_add_one, hkj]; simp
    have ea : (kA.push (Value.int k t)).toList = kA.toList ++ [Value.int k t] := by simp
    refine wpAny_bind (listUpdate_at nk2 rfl ?_ (Nat.le_trans hz hZ) (Nat.le_trans (Nat.le_of_eq (Array.size_push ..)) (Nat.succ_le_succ (Nat.le_trans hz hZ))))
    refine wpAny_pure ⟨rfl, kA.push (Value.int k t), c2, jc s2 _ s2.toks J2 (fun b o hb hb2 e => (s1.2 b hb).trans e), hc2, (s1.2 a hka.symm).trans na2, ?_⟩
    rw [ea, ek]
    exact each_snoc (R := fun v (k : Int) => ∃ t, v = Value.int k t) ⟨t, rfl⟩ hk
  case done =>
    rintro s' ⟨kA, e, J', nk', na', hk⟩
    have hkz : EachIs (fun v (k : Int) => ∃ t, v = Value.int k t) kA.toList kz := by
      have e3 : kz.take (0 + vs.length) = kz := List.take_of_length_le (by omega)
      rw [e3] at hk
      exact hk
    have hk' : EachIs (fun v d => ∃ as, Reads s'.heap v d as) kA.toList (kz.map PyData.int) := by
      exact each_ints hkz
    have hsz : kA.size = vs.length := by
      have h1 := hkz.length
      rw [Array.length_toList] at h1
      omega
    try dsimp only
    refine wpAny_bind (listItems_at nk' rfl ?_)
    obtain ⟨G, g1, g2⟩ := restrict s'.heap fun b => decide (b ≠ kS ∧ b ≠ a)
    have kp : KeepsBut a G s'.heap := fun b o hb q => by
      by_cases z : b = kS
      · rw [g2 b (by simp [z])] at q; cases q
      · rw [g1 b (by simp [z, hb])] at q
        exact q
    have hkS : G.get? kS = none := g2 kS (by simp)
    refine keyH_end (κ := dataKind s'.heap (kz.map PyData.int)) (h₁ := G) kp hkS nk' na' hka (SortsAt.data (s := s') hk' (alike_kz kz) (sortable_kz kz) (fun d hd => ?_)) hsz hZ fun h3 tk3 c k3 n3 => h _ _ c (jc s' h3 tk3 J' fun b o hb hb2 q => k3 b o hb2 (by rw [g1 b (by simp [hb, hb2])]; exact q)) n3 ⟨s'.heap, kA.toList, alike_kz kz, rfl, hk'⟩
    obtain ⟨n, _, rfl⟩ := List.mem_map.mp hd
    show A.units + (PyData.int n).depth < cLine
    have : (PyData.int n).depth = 0 := by simp [PyData.depth]
    omega
end
end LamY
namespace LamY
open PySem PySem.W PySem.Spec PyProof.Rows L2 LamX
def tSortK (T : List (Addr × Str)) (te tb : TE) : TE := fun σ H Q => te σ H fun x H1 => ∃ (n : Nat) (kf : Int → Int), x = .int n ∧ n ≤ 1000 ∧ Tabs T H1 ∧
  ∀ H2, ExtN H1 H2 → Tabs T H2 → (∀ i : Nat, i < n → tb (σ ++ [some (.int i)]) H2 fun y H' => y = .int (kf i) ∧ H' = H2) ∧
    ∀ p, H2 p = none → Q (.ref p) (upd H2 p (.lst ((((List.range n).map fun (i : Nat) => (i : Int)).mergeSort fun a b => decide (kf a ≤ kf b)).map V.int)))
theorem inv_track {X : Cx} {pins : List (Addr × Obj)} {σ : L2.St} {H : Hp} {s : Shared} {a : Addr} {o : HO} (I : Inv X pins σ H s) (hf : FpOk X pins H a) (new : ObjOk X.prog X.w (upd H a o) s.heap a o) : Inv X pins σ (upd H a o) s := by
  have nit : ∀ b u, H b = some u → b ≠ a := fun b u e z => by rw [z, hf.1] at e; cases e
  refine I.step (h' := s.heap) (g' := s.gens) (d' := s.drawn) (t' := s.toks) (ch := [a]) (fun b hb => ?_) (fun b o _ _ hc e _ => e) (fun b o _ _ hc e _ => ⟨o.slots, e⟩)
    (fun b o hc e n => ?_) (fun b o hc e => ⟨o, e⟩) (fun b xs e => ?_) (fun b o u e => ?_) (fun b ps e => ⟨#[], ?_⟩) (fun m hm => hm) (fun b u e => ?_) I.bare
  · have e : b = a := by simpa using hb
    subst e
    exact ⟨hf.2.2.2.1, hf.2.1, hf.2.2.2.2.1, hf.2.2.2.2.2⟩
  · rw [upd_ne (fun z => hc (by simp [z]))]; exact n
  · rw [upd_ne (nit b _ e)]; exact e
  · rw [upd_ne (nit b _ e)]; exact e
  · rw [upd_ne (nit b _ e), e]; simp
  · by_cases hb : b = a
    · subst hb
      rw [upd_same] at e
      cases e
      exact new
    · rw [upd_ne hb] at e
      exact (I.hok b u e).stay (fun c v hc q => q) (fun c q => by rw [upd_ne (nit c _ q)]; exact q) fun c xs q => by rw [upd_ne (nit c _ q)]; exact q
end LamY

set_option Elab.async false
set_option linter.all false
set_option maxRecDepth 100000
set_option maxHeartbeats 8000000
namespace LamY
open PySem PySem.W PySem.Spec PyProof.Rows L2 LamX
theorem each_rng : ∀ (L : List Value) (lo : Nat), (∀ j v, L[j]? = some v → ∃ t, v = Value.int ((lo + j : Nat) : Int) t) → EachIs (fun v (i : Int) => ∃ t, v = Value.int i t) L ((List.range' lo L.length).map fun (i : Nat) => (i : Int))
  | [], _, _ => EachIs.nil
  | v :: L, lo, h => by
    obtain ⟨t, rfl⟩ := h 0 v rfl
    rw [List.length_cons, List.range'_succ, List.map_cons]
    refine EachIs.cons ⟨t, rfl⟩ (each_rng L (lo + 1) fun j u hu => ?_)
    obtain ⟨t2, rfl⟩ := h (j + 1) u (by simpa using hu)
    exact ⟨t2, by congr 1; omega⟩
theorem each_vals : ∀ {L : List Value} {M : List Int}, EachIs (fun v (i : Int) => ∃ t, v = Value.int i t) L M → Vals (M.map V.int) L
  | _, _, .nil => .nil
  | _, _, .cons q t => .cons q (each_vals t)
section
variable {X : Cx}
/-- the keyed sort of a new list of the numbers below n, under an invariant of the caller's -/
theorem sort_run {pins : List (Addr × Obj)} {σ : L2.St} {H : Hp} {s : Shared} {f c' : Addr} {pm ctv : Value} {params : Arguments} {body : Expr} {scope : Scope} {a : Str} {k n : Nat} {tb : TE} {kf : Int → Int} {r : Addr} {t u v : Tok} {Q : VK}
    (hc : X.calm = true) (I : Inv X pins σ H s) (L : LamS1 X.env.scope scope a) (hN : a ∉ X.N) (hr : Room (k + 3) X.A) (hf : s.heap.get? f = some (PySem.W.kla_obj "<lambda>" (X.env.qual ++ "<lambda>") params body scope (cloFrom X.env.cells scope.names []) pm c' ctv))
    (hfn : H f = none) (hfr : f ∉ frs X.stack) (hco : H c' = some (CodeO c' (X.env.qual ++ "<lambda>")))
    (hbind : ∀ (q : Str) (cl : List (Str × Addr)) (pm cv ctv u : Value), bindArgs (PySem.W.kla_fn "<lambda>" q params body scope cl pm cv ctv) ⟨[u], []⟩ = pure [(a, u)])
    (hbody : ∀ (A : Around) (outer : List Env) (s : Shared) (H : Hp) (f c' : Addr), Room k (A.deeper (lamEnv X scope s.heap.objs.size f c')) → PE (lamCx1 X A outer s H scope a f c') body tb)
    (hrg : IsRange s.heap r 0 (n : Int) 1 t u v) (hn : n ≤ 1000) (qb : ∀ i : Nat, i < n → tb (σ ++ [some (.int i)]) H fun y H' => y = .int (kf i) ∧ H' = H)
    (q : ∀ p, H p = none → Q (.ref p) (upd H p (.lst ((((List.range n).map fun (i : Nat) => (i : Int)).mergeSort fun a b => decide (kf a ≤ kf b)).map V.int)))) :
    wpAny (model X.prog X.w) X.A (call (.builtin "sorted") [.ref r] [(Str.ofString "key", .ref f)]) (EP X pins σ Q) X.xe s := by
  have hh : X.A.in1.handled = none := I.ok.hd hc
  have hz2 : n ≤ sizeLine := by rw [sizeLine_eq]; omega
  refine call_function_entry_kw kind_sorted plain_sorted entry_sorted (ksk_s1 _ _) ?_
  unfold Builtin.«sorted»
  refine wpAny_bind (m := checkCount "sorted" 1 1 _) (wpAny_pure ?_)
  refine wpAny_bind (L2.collect_range (n := n) hh hrg (small_one (by omega) (by omega) (by omega) (by omega)) (by rw [rangeSize_nat]; omega) (by omega) fun h1 tk1 acc hk1 hacc => ?_)
  have hal : acc.toList.length = n := by rw [Array.length_toList]; exact hacc.1
  refine wpAny_bind (wpAny_newList ?_ (by rw [hal]; exact hz2))
  generalize ha : h1.objs.size = A0
  have I1 : Inv X pins σ H { s with heap := h1, toks := tk1 } := I.kept hk1
  have fpA : FpOk X pins H A0 := by
    have := I1.fpOk (Nat.le_refl _) (I1.hok.fresh (Nat.le_refl _))
    rw [← ha]
    exact this
  have hf1 := hk1 _ _ hf
  have lf1 : f < A0 := by rw [← ha]; exact Heap.lt_size hf1
  have ho : (h1.push (seqObj "list" acc.toList.toArray 0)).get? A0 = some (seqObj "list" acc.toList.toArray 0) := by rw [← ha]; exact Heap.get?_push_size _ rfl
  generalize hh2 : h1.push (seqObj "list" acc.toList.toArray 0) = h2 at ho
  have sz2 : h2.objs.size = A0 + 1 := by rw [← hh2, ← ha]; exact Heap.size_push _ _
  have I2 : Inv X pins σ H { s with heap := h2, toks := tk1 } := by
    rw [← hh2]
    exact I1.kept (t' := tk1) fun b o e => Heap.get?_push_of_some _ e
  have hf2 : h2.get? f = some (PySem.W.kla_obj "<lambda>" (X.env.qual ++ "<lambda>") params body scope (cloFrom X.env.cells scope.names []) pm c' ctv) := by
    rw [← hh2]
    exact Heap.get?_push_of_some _ hf1
  refine wpAny_bind (wpAny_holding (wpAny_call_entry_kw slot_list_sort ⟨seqObj "list" acc.toList.toArray 0, ?tyA, rfl⟩ entry_list_sort ?body (ksk_l1 _ _)))
  case tyA =>
    exact ho
  case body =>
  show wpAny (model X.prog X.w) X.A.in1.in1 (Builtin.«list.sort» ⟨[.ref A0], [(Str.ofString "key", .ref f)]⟩) _ _ _
  show wpAny (model X.prog X.w) X.A.in1.in1 (Builtin.«list.sort» ⟨[.ref A0], [(Str.ofString "key", .ref f)]⟩) _ _ ({ s with heap := h2, toks := tk1 } : Shared)
  rw [ksk_t1]
  unfold ksk_tree
  obtain ⟨e1, ho1⟩ : ∃ e1, (h2.update A0 (Obj.mapSeq fun _ => (#[] : Array Value))).get? A0 = some (seqObj "list" #[] e1) := ⟨_, get?_update_seq ho fun _ => #[]⟩
  have hkS : ((h2.update A0 (Obj.mapSeq fun _ => (#[] : Array Value))).push (seqObj "tuple" acc.toList.toArray 0)).objs.size = h2.objs.size + 1 := by rw [size_push', Heap.size_update]
  refine wpAny_bind (listItems_at ho rfl ?_)
  refine wpAny_bind (listUpdate_at ho rfl ?_ (by rw [List.size_toArray, hal]; exact hz2) (Nat.zero_le _))
  refine wpAny_bind (seqEpoch_at ho1 rfl ?_)
  refine wpAny_bind (wpAny_newTuple ?_ (by show acc.toList.toArray.toList.length ≤ _; rw [List.toList_toArray, hal]; exact hz2))
  refine wpAny_bind (wpAny_newList ?_ (Nat.zero_le _))
  refine wpAny_holding ?_
  have up1 : ∀ b o, b ≠ A0 → h2.get? b = some o → (h2.update A0 (Obj.mapSeq fun _ => (#[] : Array Value))).get? b = some o := fun b o hb e => (Heap.get?_update_other _ _ (fun z => hb z.symm)).trans e
  have I3 : Inv X pins σ H { s with heap := (h2.update A0 (Obj.mapSeq fun _ => (#[] : Array Value))).push (seqObj "tuple" acc.toList.toArray 0), toks := tk1 } := by
    have z := I2.turnedL (ch := [A0]) (h' := h2.update A0 (Obj.mapSeq fun _ => (#[] : Array Value))) (t' := tk1) (fun b o hb e => up1 b o (by simpa using hb) e) (fun b hb => by
      have : b = A0 := by simpa using hb
      rw [this]
      exact fpA)
    exact z.kept (t' := tk1) fun b o e => Heap.get?_push_of_some _ e
  have fpK : FpOk X pins H (((h2.update A0 (Obj.mapSeq fun _ => (#[] : Array Value))).push (seqObj "tuple" acc.toList.toArray 0)).objs.size) := I3.fpOk (Nat.le_refl _) (I3.hok.fresh (Nat.le_refl _))
  generalize hK : ((h2.update A0 (Obj.mapSeq fun _ => (#[] : Array Value))).push (seqObj "tuple" acc.toList.toArray 0)).objs.size = kS at fpK hkS
  have hkA : kS ≠ A0 := by omega
  have nk : (((h2.update A0 (Obj.mapSeq fun _ => (#[] : Array Value))).push (seqObj "tuple" acc.toList.toArray 0)).push (seqObj "list" #[] 0)).get? kS = some (seqObj "list" #[] 0) := by rw [← hK]; exact Heap.get?_push_size _ rfl
  have na : (((h2.update A0 (Obj.mapSeq fun _ => (#[] : Array Value))).push (seqObj "tuple" acc.toList.toArray 0)).push (seqObj "list" #[] 0)).get? A0 = some (seqObj "list" #[] e1) := Heap.get?_push_of_some _ (Heap.get?_push_of_some _ ho1)
  have lAK : A0 < kS := by omega
  have nf : f ≠ kS ∧ f ≠ A0 := ⟨Nat.ne_of_lt (Nat.lt_trans lf1 lAK), Nat.ne_of_lt lf1⟩
  have nstk : ∀ b, FpOk X pins H b → b ∉ frs X.stack := fun b hb z => by
    rcases List.mem_cons.mp (I.stkSub _ z) with e | e
    · exact hb.2.1 e
    · exact hb.2.2.1 e
  have I4 : Inv X pins σ H { s with heap := ((h2.update A0 (Obj.mapSeq fun _ => (#[] : Array Value))).push (seqObj "tuple" acc.toList.toArray 0)).push (seqObj "list" #[] 0), toks := tk1 } := I3.kept (t' := tk1) fun b o e => Heap.get?_push_of_some _ e
  have hL : H X.env.locals = none := I.free
  have hdrop : dropH H X.env.locals = H := by
    funext b
    by_cases e : b = X.env.locals
    · rw [e, dropH_at, hL]
    · exact dropH_ne e
  refine keyJ_rest (kz := (List.range n).map fun (i : Nat) => kf i) (J := fun s' => Inv X pins σ H s' ∧ s'.heap.get? f = some (PySem.W.kla_obj "<lambda>" (X.env.qual ++ "<lambda>") params body scope (cloFrom X.env.cells scope.names []) pm c' ctv)) hkA (fun s h' tk ⟨J, jf⟩ k => ?_)
    ⟨I4, Heap.get?_push_of_some _ (Heap.get?_push_of_some _ (up1 _ _ nf.2 hf2))⟩ nk na (by rw [List.length_map, List.length_range, hal]) (by rw [hal]; exact hz2) (by have := hr.un; show X.A.units + 1 + 1 + 1 < cLine; omega) (fun i v k0 hv hk s o1 o2 ⟨J, jf⟩ g1 g2 => ?_) (fun s' out c0 ⟨J, jf⟩ hD ko => ?_)
  · refine ⟨J.turnedL (ch := [kS, A0]) (h' := h') (t' := tk) (fun b o hb e => k b o (fun z => hb (by simp [z])) (fun z => hb (by simp [z])) e) (fun b hb => ?_), k _ _ nf.1 nf.2 jf⟩
    rcases List.mem_cons.mp hb with e | hb
    · rw [e]; exact fpK
    · have : b = A0 := by simpa using hb
      rw [this]
      exact fpA
  · have hi : i < n := by
      have := (List.getElem?_eq_some_iff.mp hv).1
      rw [hal] at this
      exact this
    obtain ⟨t5, ht5⟩ := hacc.2 i v (by rw [← Array.getElem?_toList]; exact hv)
    have ev : v = .int (i : Int) t5 := by rw [ht5]; congr 1; omega
    subst ev
    rw [List.getElem?_map, List.getElem?_range hi] at hk
    cases hk
    refine wpAny_mono (lam_callD (l := X.env.locals) (A := X.A.in1.in1) (.inl hL) J L hN jf hco (hbind _ _ _ _ _ _) hr.in1.in1 rfl (fun A outer s H hr2 => hbody A outer s H f c' hr2) (v := .int (i : Int)) ⟨t5, rfl⟩ (by rw [hdrop]; exact qb i hi)) (fun z s' hz => ?_) fun _ _ z => z.elim
    obtain ⟨I5, ⟨t6, rfl⟩, _, kp⟩ := hz
    exact ⟨⟨I5, kp f _ jf (.inl hfn) hfr⟩, ⟨t6, rfl⟩, kp _ _ g1 (.inl fpK.1) (nstk _ fpK), kp _ _ g2 (.inl fpA.1) (nstk _ fpA)⟩
  · refine ⟨_, rfl, wpAny_pure ⟨_, rfl, ?_⟩⟩
    have hbs : EachIs (fun v (i : Int) => ∃ t, v = Value.int i t) acc.toList ((List.range n).map fun (i : Nat) => (i : Int)) := by
      have z := each_rng acc.toList 0 (fun j v hv => by
        obtain ⟨t5, ht5⟩ := hacc.2 j v (by rw [← Array.getElem?_toList]; exact hv)
        exact ⟨t5, by rw [ht5]; congr 1; omega⟩)
      rw [hal, ← List.range_eq_range'] at z
      exact z
    have ko' : KeyedOut false (((List.range n).map fun (i : Nat) => (i : Int)).map fun i => PyData.int (kf i)) acc.toList out := by
      rw [List.map_map] at ko ⊢
      exact ko
    have ke := keyedOut_each (fun i => PyData.int (kf i)) ko' hbs
    rw [dataLe_int] at ke
    have hv : ∀ {L : List Value} {M : List Int}, EachIs (fun v (i : Int) => ∃ t, v = Value.int i t) L M → Vals (M.map V.int) L := fun {L M} h => each_vals h
    have hlen : ((((List.range n).map fun (i : Nat) => (i : Int)).mergeSort fun a b => decide (kf a ≤ kf b)).map V.int).length ≤ sizeLine := by
      rw [List.length_map, List.length_mergeSort, List.length_map, List.length_range]
      exact hz2
    exact ⟨.ref A0, upd H A0 (.lst _), inv_track J fpA ⟨hlen, out, c0, hv ke, hD⟩, rfl, q A0 fpA.1⟩
/-- sorted(range(e), key=lambda ..) -/
theorem pe_sortedKey {T : List (Addr × Str)} {c P : Addr} {a : Str} {k : Nat} {params : Arguments} {body : Expr} {scope : Scope} {te tb : TE} {e1 : Expr} {lpos p p1 pos1 pos kp1 : Pos} (hc : X.calm = true) (hg : Gl X "sorted") (hm : X.mg "sorted" = none) (hgr : Gl X "range") (hmr : X.mg "range" = none) (ha : PE X e1 te)
    (TB : TabB X.base X.mg c P) (hcode : X.env.code = .ref c) (hmT : (P, X.env.qual ++ "<lambda>") ∈ T) (hu : ∀ p ∈ T, p.1 = P → p.2 = X.env.qual ++ "<lambda>") (hr : Room (k + 3) X.A) (L : LamS1 X.env.scope scope a) (hN : a ∉ X.N) (hdef : defaultsOf params X.env = ([], []))
    (hbind : ∀ (q : Str) (cl : List (Str × Addr)) (pm cv ctv u : Value), bindArgs (PySem.W.kla_fn "<lambda>" q params body scope cl pm cv ctv) ⟨[u], []⟩ = pure [(a, u)])
    (hbody : ∀ (A : Around) (outer : List Env) (s : Shared) (H : Hp) (f c' : Addr), Room k (A.deeper (lamEnv X scope s.heap.objs.size f c')) → PE (lamCx1 X A outer s H scope a f c') body tb)
    (na : starEach [e1] X.env = (false, eval e1 X.env) :: starEach [] X.env := by rfl) :
    PE X (.Call (.Name "sorted" p) [.Call (.Name "range" p1) [e1] [] pos1] [⟨some "key", .Lambda params body scope lpos, kp1⟩] pos) (tSortK T te tb) := by
  refine ⟨fun pins s σ H Q I h => ?_⟩
  refine wpAny_Call_Name_kw (ld_blt I hg hm (show bootBuiltins "sorted" = some (.builtin "sorted") by decide +kernel) ?_)
  refine PyProof.Rows.callWith_kw ?_ (by rfl) (by rfl) (by rfl) (by rfl)
  show wpAny _ _ (spliced ((false, eval (.Call (.Name "range" p1) [e1] [] pos1) X.env) :: backTo pos (starEach [] X.env))) _ _ s
  refine Calls.spliced_cons ?_
  refine Call_ (ld_blt I hgr hmr boot_range (PyProof.Rows.callWith_type1 (one_arg ha I h (fun v s2 x H2 I2 r q => ?_) na) na))
  obtain ⟨n, kf, rfl, hn, hT, q⟩ := q
  obtain ⟨t, rfl⟩ := r
  refine call_range_1 ?_
  refine Calls.spliced_nil ?_
  generalize hs3 : ({ s2 with heap := s2.heap.push { cls := .type "range", data := .fields #[.int 0 s2.toks, .int n t, .int 1 (s2.toks + 1)] }, toks := s2.toks + 1 + 1 } : Shared) = s3
  have I3 : Inv X pins σ H2 s3 := by
    rw [← hs3]
    exact I2.kept fun b o e => Heap.get?_push_of_some _ e
  have hrg3 : IsRange s3.heap s2.heap.objs.size 0 n 1 s2.toks t (s2.toks + 1) := by
    rw [← hs3]
    exact IsRange.new _ _ _ _ _ _ _
  have fpr : FpOk X pins H2 s2.heap.objs.size := I2.fpOk (Nat.le_refl _) (I2.hok.fresh (Nat.le_refl _))
  have I3p : Inv X ((s2.heap.objs.size, { cls := .type "range", dict := none, data := .fields #[.int 0 s2.toks, .int n t, .int 1 (s2.toks + 1)], slots := #[] }) :: pins) σ H2 s3 := I3.pins_of fun p hp => by
    rcases List.mem_cons.mp hp with e | hp
    · rw [e]
      exact ⟨hrg3, fpr.1, fpr.2.1, fpr.2.2.1, fun v z => by cases z⟩
    · exact I3.pin p (List.mem_append_right _ hp)
  show wpAny _ _ (evalAll ((do let v ← eval (.Lambda params body scope lpos) X.env; standAt pos; pure v) :: [])) _ _ s3
  refine wpAny_evalAll_cons (wpAny_bind (lam_make2 I3p TB hcode hmT hu hT hdef (L.has I3p.ok) fun f c' pm ctv H4 s4 I4 eN T4 hf hfn hfr hco => wpAny_bind (wpAny_standAt (wpAny_pure ?_))))
  refine wpAny_evalAll_nil ?_
  have I5 : Inv X pins σ H4 s4 := I4.pins_of fun p hp => I4.pin p (List.mem_append_right _ (List.mem_cons_of_mem _ hp))
  have hrg4 : IsRange s4.heap s2.heap.objs.size 0 n 1 s2.toks t (s2.toks + 1) := (I4.pin (s2.heap.objs.size, _) (List.mem_append_right _ List.mem_cons_self)).1
  obtain ⟨qb, qq⟩ := q H4 eN T4
  exact sort_run hc I5 L hN hr hf hfn hfr hco hbind hbody hrg4 hn qb qq
end
end LamY

set_option Elab.async false
set_option linter.all false
set_option maxRecDepth 100000
/-! Attributes as targets, dicts of whole numbers, methods. -/
namespace Fn
open PySem PySem.Spec L2
/-- an attribute as a target -/
def gFldT (K : PySem.W.Frag) (ta : TE) (f : Str) : TG := fun y σ H Q => ta σ H fun x H2 => ∃ a C dx fs, x = .ref a ∧ H2 a = some (.ins C dx fs) ∧ Cls K C ∧ NoAttr K C f ∧ fs.length < 1000 ∧ Q σ (upd H2 a (.ins C dx (putF f y fs)))
theorem pg_fld {X : Cx} {o : Expr} {f : Str} {pos : Pos} {ta : TE} (ha : PE X o ta) : PG X (.Attribute o f pos) (gFldT X.K ta f) := by
  refine ⟨fun pins s σ H v u Q I r h => ?_⟩
  rw [assign_Attribute]
  refine wpAny_bind (wpAny_holding (thn (ha.run pins s σ H _ I h) fun ov s1 ⟨x, H1, I1, rx, a, C, dx, fs, ex, ea, c, n, l, q2⟩ => ?_))
  subst ex
  obtain rfl : ov = Value.ref a := rx
  exact wpAny_bind (wpAny_standAt (wpAny_bind (wpAny_holding (setattr_ok I1 ea c n l r fun s3 I3 => wpAny_release ⟨σ, _, I3, q2⟩))))
/-! ### dicts of whole numbers -/
def putI (kvs : List (Int × Int)) (k v : Int) : List (Int × Int) := if (kvs.any fun p => decide (p.1 = k)) = true then kvs.map (fun p => if p.1 = k then (p.1, v) else p) else kvs ++ [(k, v)]
def getI (kvs : List (Int × Int)) (k : Int) : Option Int := (kvs.find? fun p => decide (p.1 = k)).map (·.2)
def kvV (p : Int × Int) : L2.Key × V := (Sum.inl p.1, V.int p.2)
theorem kv_key (a b : Int) : decide ((Sum.inl a : L2.Key) = Sum.inl b) = decide (a = b) := by
  by_cases h : a = b
  · rw [h]; simp
  · rw [decide_eq_false h]
    exact decide_eq_false fun z => h (Sum.inl.inj z)
theorem put_kv (kvs : List (Int × Int)) (k v : Int) : putK (kvs.map kvV) (Sum.inl k) (V.int v) = (putI kvs k v).map kvV := by
  unfold putK putI
  have e : (kvs.map kvV).any (fun kv => decide (kv.1 = (Sum.inl k : L2.Key))) = kvs.any fun p => decide (p.1 = k) := by
    rw [List.any_map]
    congr 1
    funext p
    exact kv_key p.1 k
  rw [e]
  split
  · rw [List.map_map, List.map_map]
    congr 1
    funext p
    show (if (kvV p).1 = Sum.inl k then ((kvV p).1, V.int v) else kvV p) = kvV (if p.1 = k then (p.1, v) else p)
    by_cases h : p.1 = k
    · rw [if_pos h, if_pos (by show (Sum.inl p.1 : L2.Key) = _; rw [h])]
      rfl
    · rw [if_neg h, if_neg (show ¬ (kvV p).1 = (Sum.inl k : L2.Key) from fun z => h (Sum.inl.inj z))]
  · rw [List.map_append]
    rfl
theorem get_kv (kvs : List (Int × Int)) (k : Int) : valV (kvs.map kvV) (Sum.inl k : L2.Key) = (getI kvs k).map V.int := by
  unfold valV getI
  induction kvs with
  | nil => rfl
  | cons p kvs ih =>
    rw [List.map_cons, List.find?_cons, List.find?_cons]
    have e : decide ((kvV p).1 = (Sum.inl k : L2.Key)) = decide (p.1 = k) := kv_key p.1 k
    rw [e]
    cases decide (p.1 = k) with
    | true => rfl
    | false => exact ih
theorem kv_eq (kvs : List (Int × Int)) : (kvs.map fun p => ((Sum.inl p.1 : L2.Key), V.int p.2)) = kvs.map kvV := rfl
theorem putI_len (kvs : List (Int × Int)) (k v : Int) : (putI kvs k v).length ≤ kvs.length + 1 := by
  unfold putI
  split
  · rw [List.length_map]; omega
  · rw [List.length_append]; exact Nat.le_refl _
section
variable {K : PySem.W.Frag} {c : Ct} {own : List Nat} {b : Bool}
def intO : PyData → O Int
  | .int i => .ok i
  | _ => .bad
def dictL (f : PyData → Rho → O Rho) (ek ev : Rho → O PyData) (ρ : Rho) : List (Int × Int) → List PyData → O (List (Int × Int))
  | kvs, [] => .ok kvs
  | kvs, d :: ds => (f d ρ).bind fun ρ1 => (noEx ((ek ρ1).bind intO)).bind fun k => (noEx ((ev ρ1).bind intO)).bind fun v => dictL f ek ev ρ (putI kvs k v) ds
def gDict (vs : List Nat) (f : PyData → Rho → O Rho) (ek ev : Rho → O PyData) (gi : Rho → O (List PyData)) : Rho → O PyData := fun ρ => (gi ρ).bind fun ds => if ds.length ≤ lim then (noEx (dictL f ek ev (wipeR ρ vs) [] ds)).bind fun kvs => .ok (D.dc kvs) else .bad
theorem dictL_len {f : PyData → Rho → O Rho} {ek ev : Rho → O PyData} {ρ : Rho} : ∀ {ds : List PyData} {kvs kvs' : List (Int × Int)}, dictL f ek ev ρ kvs ds = .ok kvs' → True := fun _ => trivial
theorem fe_dict {vs : List Nat} {wi : TI} {g : TG} {tk tv : TE} {gi : Rho → O (List PyData)} {f : PyData → Rho → O Rho} {ek ev : Rho → O PyData} (hi : FI K c own wi gi) (hg : FC K c.noW own vs g f)
    (hx : ∀ d ρ k, f d ρ ≠ .ex k) (hk : FE K c.noW own true tk ek) (hv : FE K c.noW own true tv ev) : FE K c own b (tDc wi g tYes tk tv vs) (gDict vs f ek ev gi) := FE.any fun σ H F ρ Q S q => by
  refine hi σ H F ρ _ S (OPost.imp (fun ds q J H1 F1 e1 it => ?_) (fun _ q => q) (OPost.bind q))
  split at q
  · rename_i hlim
    intro A hA
    have S1 := S.ext e1
    cases hz : dictL f ek ev (wipeR ρ vs) [] ds with
    | ex n => rw [hz] at q; exact q.elim
    | bad => rw [hz] at q; exact q.elim
    | ok zs =>
      rw [hz] at q
      have q : ∀ v H' F', Ext F1 H1 F' H' → Rep K c.cls F' v (D.dc zs) → Q v H' := fun v H' F' e r => q v H' F' (e1.trans e) r
      refine ⟨fun i m H2 => m = ds.length - i ∧ i ≤ ds.length ∧ ∃ F2 kvs, Ext F1 H1 F2 H2 ∧ H2 A = some (.dK (kvs.map kvV)) ∧ F2 A = none ∧ kvs.length ≤ i ∧ dictL f ek ev (wipeR ρ vs) kvs (ds.drop i) = .ok zs,
        ⟨ds.length, by omega, Nat.zero_le _, F1, [], Ext.newO e1.s hA, upd_same, e1.s.free hA, Nat.zero_le _, hz⟩, ?_⟩
      rintro i m H2 ⟨rfl, hle, F2, kvs, e2, hD, hF, hl, hc⟩
      obtain ⟨i1, i2, i3⟩ := it F2 H2 e2.f e2.s i
      by_cases hlt : i < ds.length
      · refine .inr ⟨i1 hlt, fun H3 => ∃ F3 kvs', Ext F1 H1 F3 H3 ∧ H3 A = some (.dK (kvs'.map kvV)) ∧ F3 A = none ∧ kvs'.length ≤ i + 1 ∧ dictL f ek ev (wipeR ρ vs) kvs' (ds.drop (i + 1)) = .ok zs,
          fun H3 z => ⟨ds.length - (i + 1), by omega, rfl, hlt, z⟩, fun x H3 y => ?_⟩
        obtain ⟨F3, e3, r3⟩ := i3 x H3 ds[i] (List.getElem?_eq_getElem hlt) y
        rw [List.drop_eq_getElem_cons hlt] at hc
        unfold dictL at hc
        obtain ⟨ρ1, ho, hc⟩ := O.bind_okI hc
        obtain ⟨k, hk1, hc⟩ := O.bind_okI hc
        obtain ⟨v, hv1, hc⟩ := O.bind_okI hc
        obtain ⟨dk, hk2, hk3⟩ := O.bind_okI (noEx_okI hk1)
        obtain ⟨dv, hv2, hv3⟩ := O.bind_okI (noEx_okI hv1)
        have ek' : dk = .int k := by
          unfold intO at hk3
          split at hk3
          · cases hk3; rfl
          · cases hk3
        have ev' : dv = .int v := by
          unfold intO at hv3
          split at hv3
          · cases hv3; rfl
          · cases hv3
        subst ek' ev'
        have e13 := e2.trans e3
        refine hg x ds[i] (L2.wipe σ vs) H3 F3 (wipeR ρ vs) _ ((S1.ext e13).wipe vs) r3 ?_
        rw [ho]
        intro σ4 w4 S4
        refine ⟨w4.trans (wipe_wipe σ vs), yes_rd (ifT ?_)⟩
        have nF : ∀ {F5 H5}, Ext F2 H2 F5 H5 → F5 A = none := fun {F5 H5} ee => by
          cases qq : F5 A with
          | none => rfl
          | some o =>
            rcases ee.n A o qq with z | z
            · rw [hF] at z; cases z
            · rw [hD] at z; cases z
        refine hk σ4 H3 F3 ρ1 _ S4 ?_
        rw [hk2]
        intro u H5 F5 e5 r5
        cases r5
        refine hv σ4 H5 F5 ρ1 _ (S4.ext e5) ?_
        rw [hv2]
        intro u2 H6 F6 e6 r6
        cases r6
        have e26 := (e3.trans e5).trans e6
        refine ⟨kvs.map kvV, Sum.inl k, rfl, e26.h _ _ hD, by rw [List.length_map]; exact lt_lim (by omega), F6, putI kvs k v, (e2.trans e26).updNew hA (nF e26), ?_, nF e26, ?_, hc⟩
        · rw [upd_same, put_kv]
        · have := putI_len kvs k v
          omega
      · have : i = ds.length := by omega
        subst this
        rw [List.drop_length] at hc
        have hc : O.ok kvs = O.ok zs := hc
        cases hc
        refine .inl ⟨i2 rfl, q (.ref A) H2 (upd F2 A (.dK (zs.map kvV))) (e2.keep hA hD) (.dc upd_same)⟩
  · exact q.elim
def gGet2 (g gk gd : Rho → O PyData) : Rho → O PyData := fun ρ => (g ρ).bind fun d => match d with
  | .dict ((.bool false, .none) :: kvs) => (gk ρ).bind fun k => (gd ρ).bind fun z => match k with
    | .int k => (match kvs.find? (fun p => match p.1 with
        | .int j => decide (j = k)
        | _ => false) with
      | some p => .ok p.2
      | none => .ok z)
    | _ => .bad
  | _ => .bad
theorem find_dc (kvs : List (Int × Int)) (k : Int) : (kvs.map fun p => ((PyData.int p.1, PyData.int p.2) : PyData × PyData)).find? (fun p => match p.1 with
        | .int j => decide (j = k)
        | _ => false) = (kvs.find? fun p => decide (p.1 = k)).map fun p => (.int p.1, .int p.2) := by
  induction kvs with
  | nil => rfl
  | cons p kvs ih =>
    rw [List.map_cons, List.find?_cons, List.find?_cons]
    show (match decide (p.1 = k) with | true => some _ | false => List.find? _ _) = _
    cases decide (p.1 = k) with
    | true => rfl
    | false => exact ih
theorem fe_get2 {t tk td : TE} {g gk gd : Rho → O PyData} (h : FE K c own true t g) (hk : FE K c own true tk gk) (hd : FE K c own true td gd) : FE K c own b (tDGet2 t tk td) (gGet2 g gk gd) := FE.any fun σ H F ρ Q S q => by
  refine h σ H F ρ _ S (OPost.imp (fun d q v H1 F1 e1 r1 => ?_) (fun _ q => q) (OPost.bind q))
  split at q
  · rename_i kvs
    obtain ⟨a, ks, rfl, rfl, ha⟩ : ∃ (a : Addr) (ks : List (Int × Int)), v = .ref a ∧ kvs = (ks.map fun p => (.int p.1, .int p.2)) ∧ F1 a = some (.dK (ks.map kvV)) := by
      cases r1 with
      | dc h => exact ⟨_, _, rfl, rfl, h⟩
    refine ⟨a, rfl, .inl ⟨_, .inl (e1.s _ _ ha)⟩, ?_⟩
    refine hk σ H1 F1 ρ _ (S.ext e1) (OPost.imp (fun k q w H2 F2 e2 r2 => ?_) (fun _ q H2 s => q H2 (e1.h.trans s)) (OPost.bind q))
    refine hd σ H2 F2 ρ _ (S.ext (e1.trans e2)) (OPost.imp (fun z q u H3 F3 e3 r3 => ?_) (fun _ q H2 s => q H2 ((e1.trans e2).h.trans s)) (OPost.bind q))
    split at q
    · rename_i k _
      cases r2
      have e13 := e2.trans e3
      have hg := DGet.k (H := H3) (k := Sum.inl k) (e13.h _ _ (e1.s _ _ ha))
      refine ⟨_, hg, ?_⟩
      rw [get_kv]
      rw [find_dc] at q
      unfold getI
      cases hf : ks.find? (fun p => decide (p.1 = k)) with
      | none =>
        rw [hf] at q
        exact q u H3 F3 ((e1.trans e2).trans e3) r3
      | some p =>
        rw [hf] at q
        exact q _ H3 F3 ((e1.trans e2).trans e3) (.int p.2)
    · exact q.elim
  · exact q.elim
end
/-! ### methods -/
/-- an instance without an attribute of the method's name -/
def isOb (k : Nat) (m : Str) : PyData → Bool
  | .dict ((.bool true, .int j) :: gs) => decide (j = k) && (fieldD m gs).isNone
  | _ => false
theorem noField {K : PySem.W.Frag} {cls : Nat → Addr} {F : Hp} {n : Str} : ∀ {fs : List (Str × V)} {gs : List (PyData × PyData)}, RepF K cls F fs gs → fieldD n gs = none → fs.lookup n = none
  | _, _, .nil, _ => rfl
  | _, _, .cons (n := m) (v := v) (d := d') r t, h => by
    unfold fieldD at h
    rw [List.lookup_cons]
    cases e : n == m with
    | true => rw [e, if_pos rfl] at h; cases h
    | false =>
      rw [e, if_neg Bool.false_ne_true] at h
      exact noField t h
theorem isOb_of {K : PySem.W.Frag} {cls : Nat → Addr} {F : Hp} {k : Nat} {m : Str} {v : V} {d : PyData} (r : Rep K cls F v d) (h : isOb k m d = true) : ∃ a dx fs, v = .ref a ∧ F a = some (.ins (cls k) dx fs) ∧ fs.lookup m = none := by
  unfold isOb at h
  split at h
  · rename_i j gs
    rw [Bool.and_eq_true] at h
    cases r with
    | ob ha rf =>
      rename_i a dx k' fs
      have : k' = k := by
        have := of_decide_eq_true h.1
        omega
      subst this
      refine ⟨_, _, _, rfl, ha, noField rf ?_⟩
      cases q : fieldD m gs with
      | none => rfl
      | some x => rw [q] at h; exact absurd h.2 (by simp)
  · cases h
def MethAt (K : PySem.W.Frag) (C : Addr) (x qual : Str) (st : Stmt) (ps : List Str) : Prop := ∃ f fd, Fun K x qual st f fd ∧ Meth K C x f ∧ Binds K fd ps []
def OkM (P : Program) (w : World) (K : PySem.W.Frag) (mg : Str → Option Value) (base : Heap) (C : Addr) (x : Str) (ps : List Str) (k : Nat) (sp : Sp) : Prop :=
  ∃ f fd, FnOk P w K mg base (L2.CX P w) k f fd ps sp ∧ Meth K C x f ∧ Binds K fd ps []
section
variable {P : Program} {w : World} {K : PySem.W.Frag} {mg : Str → Option Value} {base : Heap} {cls xc : Nat → Addr} {C : Addr} {x qual : Str} {st : Stmt} {ps N : List Str} {k : Nat}
theorem okM_of (d : MethAt K C x qual st ps) (S : FnScope N ps (defScope st)) (g : Rho → R) (own' : List Nat)
    (h : ∀ (f : Addr) (cdv : Value) (A : Around) (outer : List Env) (s : Shared) (H : Hp) (E : XK) (F0 : Hp), Room k (A.deeper (PyProof.Rows.envOfC qual (defScope st) s.heap.objs.size f cdv)) →
      ∃ t, PSs (cxOf (L2.CX P w) P w K mg base N qual (defScope st) f cdv A outer s H E) (defBody st) t ∧ FS K ⟨cls, xc, fun cl d _ H' => E cl d H', (H, F0, []), false⟩ [] [] own' t g) :
    OkM P w K mg base C x ps (k + 1) (spF K cls xc ps.length (fnG N.length g)) := by
  obtain ⟨f, fd, F, m, b⟩ := d
  exact ⟨f, fd, fn_ok F S g own' (h f), m, b⟩
theorem okMN_of (d : MethAt K C x qual st ps) (S : FnScope N ps (defScope st)) (g : Rho → R) (own' : List Nat)
    (h : ∀ (f : Addr) (cdv : Value) (A : Around) (outer : List Env) (s : Shared) (H : Hp) (E : XK) (F0 : Hp), Room k (A.deeper (PyProof.Rows.envOfC qual (defScope st) s.heap.objs.size f cdv)) →
      ∃ t, PSs (cxOf (L2.CX P w) P w K mg base N qual (defScope st) f cdv A outer s H E) (defBody st) t ∧ FS K ⟨cls, xc, fun cl d _ H' => E cl d H', (H, F0, []), true⟩ [] [] own' t g) :
    OkM P w K mg base C x ps (k + 1) (spN K cls xc ps.length (fnG N.length g)) := by
  obtain ⟨f, fd, F, m, b⟩ := d
  exact ⟨f, fd, fn_okN F S g own' (h f), m, b⟩
theorem okMT_of {T : List (Addr × Str)} (d : MethAt K C x qual st ps) (S : FnScope N ps (defScope st)) (g : Rho → R) (own' : List Nat)
    (h : ∀ (f : Addr) (cdv : Value) (A : Around) (outer : List Env) (s : Shared) (H : Hp) (E : XK) (F0 : Hp), Room k (A.deeper (PyProof.Rows.envOfC qual (defScope st) s.heap.objs.size f cdv)) →
      ∃ t, PSs (cxOf (L2.CX P w) P w K mg base N qual (defScope st) f cdv A outer s H E) (defBody st) t ∧ FS K ⟨cls, xc, fun cl d _ H' => E cl d H', (hideT T H, F0, T), false⟩ [] [] own' t g) :
    OkM P w K mg base C x ps (k + 1) (spT K cls T ps.length (fun ds => noEx (fnG N.length g ds))) := by
  obtain ⟨f, fd, F, m, b⟩ := d
  exact ⟨f, fd, fn_okT F S g own' (h f), m, b⟩
end
def E0 : XK := fun _ _ _ => False
theorem passE0 {X : Cx} : Passes (L2.CX X.prog X.w) X E0 := fun _ _ _ _ _ _ _ x => by
  obtain ⟨_, _, _, _, _, _, _, _, _, _, _, _, z⟩ := x
  exact z.elim
section
variable {X : Cx} {C : Addr} {m : Str} {ps : List Str} {k j : Nat} {sp : Sp} {o e : Expr} {es : List Expr} {ta : TE} {t : TA} {pos apos : Pos}
theorem pe_methO {pl : Sem Bool} (ok : OkM X.prog X.w X.K X.mg X.base C m ps k sp) (c : Cls X.K C) (he : PE X o ta) (hr : Room j X.A) (hk : k ≤ j) (ha : PA X (e :: es) t)
    (hst : starEach (e :: es) X.env = (false, eval e X.env) :: starEach es X.env := by rfl) (hpl : (backTo pos (starEach es X.env)).any (·.1) = false := by rfl)
    (ht : eval (.Call (.Attribute o m apos) (e :: es) [] pos) X.env = (do
      let ov ← eval o X.env
      standAt apos.atName
      let (f, first) ← holding [ov] (getMethod ov m pl)
      callWith pos f first (backTo pos (starEach (e :: es) X.env)) (backToKw pos (keywordEach [] X.env))) := by rfl) :
    PE X (.Call (.Attribute o m apos) (e :: es) [] pos) (tMeth C m sp [] E0 ta t) := by
  obtain ⟨f, fd, F, M, b⟩ := ok
  exact pe_meth he c M F (hr.mono hk) b .nil passE0 ha hst hpl ht
theorem pe_methO0 {pl : Sem Bool} (ok : OkM X.prog X.w X.K X.mg X.base C m ps k sp) (c : Cls X.K C) (he : PE X o ta) (hr : Room j X.A) (hk : k ≤ j)
    (ht : eval (.Call (.Attribute o m apos) [] [] pos) X.env = (do
      let ov ← eval o X.env
      standAt apos.atName
      let (f, first) ← holding [ov] (getMethod ov m pl)
      callWith pos f first (backTo pos (starEach [] X.env)) (backToKw pos (keywordEach [] X.env))) := by rfl) :
    PE X (.Call (.Attribute o m apos) [] [] pos) (tMeth C m sp [] E0 ta tNil) := by
  obtain ⟨f, fd, F, M, b⟩ := ok
  exact pe_meth0 he c M F (hr.mono hk) b .nil passE0 ht
end
section
variable {K : PySem.W.Frag} {c : Ct} {own : List Nat} {b : Bool}
/-- a method that tells a new list -/
def gMethL (k : Nat) (m : Str) (n : Nat) (f : List PyData → O PyData) (gs : Rho → O PyData) (ga : Rho → O (List PyData)) : Rho → O PyData := fun ρ => (gs ρ).bind fun d => if isOb k m d = true then (ga ρ).bind fun ds => if ds.length + 1 = n then (noEx (f (d :: ds))).bind listO else .bad else .bad
theorem gMethL_list {k n : Nat} {m : Str} {f : List PyData → O PyData} {gs : Rho → O PyData} {ga : Rho → O (List PyData)} : ∀ ρ d, gMethL k m n f gs ga ρ = .ok d → ∃ ds, d = .list ds := fun ρ d h => by
  unfold gMethL at h
  obtain ⟨x, _, h⟩ := O.bind_okI h
  split at h
  · obtain ⟨ds, _, h⟩ := O.bind_okI h
    split at h
    · obtain ⟨e, _, h⟩ := O.bind_okI h
      unfold listO at h
      split at h
      · cases h; exact ⟨_, rfl⟩
      · cases h
    · cases h
  · cases h
theorem fo_methN {k n : Nat} {m : Str} {f : List PyData → O PyData} {t : TE} {ta : TA} {gs : Rho → O PyData} {ga : Rho → O (List PyData)} (h : FE K c own true t gs) (ha : FA K c own true ta ga) : FO K c own (tMeth (c.cls k) m (spN K c.cls c.xc n f) [] E0 t ta) (gMethL k m n f gs ga) := fun σ H F ρ Q S q => by
  refine h σ H F ρ _ S (OPost.imp (fun d q v H1 F1 e1 r1 => ?_) (fun _ q => q) (OPost.bind q))
  split at q
  · rename_i ho
    obtain ⟨a, dx, fs, rfl, h1, h2⟩ := isOb_of r1 ho
    refine ⟨a, dx, fs, rfl, e1.s _ _ h1, h2, ?_⟩
    refine ha σ H1 F1 ρ _ (S.ext e1) (OPost.imp (fun ds q vs H2 F2 e2 r2 => ?_) (fun _ q H2 s => q H2 (e1.h.trans s)) (OPost.bind q))
    split at q
    · rename_i hn
      rw [List.append_nil]
      have r2 : RepL K c.cls F2 vs ds := r2
      refine ⟨F2, d :: ds, e2.s, .cons (r1.mono e2.f) r2, hn, ?_⟩
      cases hf : f (d :: ds) with
      | ex n => rw [hf] at q; exact q.elim
      | bad => rw [hf] at q; exact q.elim
      | ok z =>
        rw [hf] at q
        show ∃ es, z = .list es ∧ _
        have q2 : OPost _ _ (listO z) := q
        clear q
        unfold listO at q2
        split at q2
        · rename_i es
          obtain ⟨es', e0, q⟩ := q2
          cases e0
          exact ⟨es, rfl, fun p xs H3 F3 e3 h3 f3 n3 r3 => q p xs H3 F3 ((e1.trans e2).trans e3) h3 f3 ((e1.trans e2).h.free n3) r3⟩
        · exact q2.elim
    · exact q.elim
  · exact q.elim
end
section
variable (ρ : Rho) (k n : Nat) (m : Str) (f : List PyData → O PyData) (g gk gd : Rho → O PyData) (ga : Rho → O (List PyData))
@[simp] theorem gMethL_ap : gMethL k m n f g ga ρ = (g ρ).bind fun d => if isOb k m d = true then (ga ρ).bind fun ds => if ds.length + 1 = n then (noEx (f (d :: ds))).bind listO else .bad else .bad := rfl
end
end Fn

set_option Elab.async false
set_option linter.all false
set_option maxRecDepth 100000
/-! Lists that a call changes for its caller: kept beside the state, by their addresses. -/
namespace Fn
open PySem PySem.Spec L2
def hide (L : List Addr) (H : Hp) : Hp := fun b => if b ∈ L then none else H b
theorem hide_in {L : List Addr} {H : Hp} {a : Addr} (h : a ∈ L) : hide L H a = none := if_pos h
theorem hide_out {L : List Addr} {H : Hp} {a : Addr} (h : a ∉ L) : hide L H a = H a := if_neg h
theorem hide_some {L : List Addr} {H : Hp} {a : Addr} {o : HO} (h : hide L H a = some o) : a ∉ L ∧ H a = some o := by
  unfold hide at h
  split at h
  · cases h
  · exact ⟨by assumption, h⟩
section
variable {K : PySem.W.Frag} {cls xc : Nat → Addr} {B : Hp × Hp × List (Addr × Str)} {F H F' H' F0 H0 : Hp} {σ : L2.St} {ρ : Rho} {a b p : Addr} {es : List PyData} {L L' : List Addr}
theorem Ext.hide {G : Hp} (e : Ext F0 G F H) (h : ∀ a ∈ L', G a = none ∧ F a = none) : Ext F0 G F (Fn.hide L' H) where
  f := e.f
  h := fun x o q => by
    rw [hide_out fun z => by rw [(h x z).1] at q; cases q]
    exact e.h x o q
  s := fun x o q => by
    rw [hide_out fun z => by rw [(h x z).2] at q; cases q]
    exact e.s x o q
  n := e.n
theorem Ext.hide1 {G : Hp} (e : Ext F0 G F H) (h : G a = none) (f : F a = none) : Ext F0 G F (Fn.hide [a] H) := e.hide fun x hx => by
  rw [List.mem_singleton.mp hx]
  exact ⟨h, f⟩
theorem ext_hid0 (s : Same F H) (h : ∀ a ∈ L, F a = none) : Ext F (Fn.hide L H) F H :=
  ⟨Same.refl _, fun x o q => (hide_some q).2, s, fun _ _ q => .inl q⟩
theorem Ext.unhide (e : Ext F H F' H') (h : ∀ a ∈ L, F a = none ∧ ∃ o, H a = some o) : Ext F (Fn.hide L H) F' H' :=
  ⟨e.f, fun x o q => e.h x o (hide_some q).2, e.s, fun x o q => (e.n x o q).elim .inl fun z => .inr (by
    unfold Fn.hide
    split
    · rfl
    · exact z)⟩
theorem Own1.hid (o : Own1 K cls F H a es) (h : a ∉ L) : Own1 K cls F (Fn.hide L H) a es := by
  obtain ⟨ys, h1, h2, h3⟩ := o
  exact ⟨ys, by rw [hide_out h]; exact h1, h2, h3⟩
theorem Own1.hid1 (o : Own1 K cls F H a es) (h : a ≠ b) : Own1 K cls F (Fn.hide [b] H) a es := o.hid fun z => h (List.mem_singleton.mp z)
theorem Own1.out (o : Own1 K cls F H a es) : F a = none := by
  obtain ⟨ys, h1, h2, h3⟩ := o
  exact h2
theorem Own1.there (o : Own1 K cls F H a es) : ∃ o, H a = some o := by
  obtain ⟨ys, h1, h2, h3⟩ := o
  exact ⟨_, h1⟩
theorem Own1.get (o : Own1 K cls F H a es) : ∃ ys, H a = some (.lst ys) ∧ RepL K cls F ys es := by
  obtain ⟨ys, h1, h2, h3⟩ := o
  exact ⟨ys, h1, h3⟩
theorem Sim.move (S : Sim K cls B [] σ H F ρ) (s1 : Same F F') (s2 : Same F' H') : Sim K cls (H', F', []) [] σ H' F' ρ where
  tb := fun p hp => absurd hp List.not_mem_nil
  ft := fun p hp => absurd hp List.not_mem_nil
  b := Ext.refl s2
  len := S.len
  fro := fun i d hi h => by
    obtain ⟨v, h1, h2⟩ := S.fro i d hi h
    exact ⟨v, h1, h2.mono s1⟩
  ow := fun i d hi => absurd hi List.not_mem_nil
  sep := fun i j d e a hi => absurd hi List.not_mem_nil
theorem Sim.base (S : Sim K cls B [] σ H F ρ) : Sim K cls (H, F, []) [] σ H F ρ := S.move (Same.refl _) S.s
/-- a piece of a body that changes nothing of the caller's -/
theorem run_nx {W : WX} {fr : Bool} {ol own' : List Nat} {t : TS} {g : Rho → R} {Z : Ends} {ρ' : Rho} (h : FS K ⟨cls, xc, W, (H, F, []), fr⟩ ol [] own' t g) (S : Sim K cls B [] σ H F ρ) (e : g ρ = .nx ρ')
    (q : ∀ σ' H' F', Ext F H F' H' → Sim K cls (H', F', []) [] σ' H' F' ρ' → Z.nx σ' H') : t Z σ H := by
  refine h Z σ H F ρ S.base ?_
  rw [e]
  intro σ' H' F1 s S1
  obtain ⟨F2, s2, S2⟩ := S1.shrink (own' := []) fun i z => absurd z List.not_mem_nil
  exact q σ' H' F2 S2.b S2.base
/-- what a slot holds -/
theorem Sim.val (S : Sim K cls B [] σ H F ρ) {i : Nat} {d : PyData} (h : ρ[i]? = some (some d)) : ∃ v, σ[i]? = some (some v) ∧ Rep K cls F v d := S.fro i d List.not_mem_nil h
theorem Sim.adr (S : Sim K cls B [] σ H F ρ) {i : Nat} (h : ρ[i]? = some (some (D.ad a))) : σ[i]? = some (some (V.ref a)) := by
  obtain ⟨v, h1, h2⟩ := S.val h
  cases h2
  exact h1
/-! ### the list changes -/
theorem chg (s : Same F H) (o : Own1 K cls F H a es) {ys : List V} {ds : List PyData} (r : RepL K cls F ys ds) : Ext F (Fn.hide [a] H) F (L2.upd H a (.lst ys)) ∧ Own1 K cls F (L2.upd H a (.lst ys)) a ds := by
  refine ⟨(ext_hid0 (L := [a]) s fun x hx => ?_).updNew (hide_in List.mem_cons_self) o.out, ys, upd_same, o.out, r⟩
  rw [List.mem_singleton.mp hx]
  exact o.out
theorem app_rd {W : WX} {i : Nat} {te : TE} {g : Rho → O PyData} {Z : Ends} {d : PyData} (h : FE K ⟨cls, xc, W, (H, F, []), false⟩ [] true te g) (S : Sim K cls B [] σ H F ρ) (hi : ρ[i]? = some (some (D.ad a))) (o : Own1 K cls F H a es) (hl : es.length < lim) (e : g ρ = .ok d)
    (q : ∀ H' F', Ext F (Fn.hide [a] H) F' H' → Own1 K cls F' H' a (es ++ [d]) → Sim K cls (H', F', []) [] σ H' F' ρ → Z.nx σ H') : tDrop (tBM K "list" rAppend (tVar i) (tCons te tNil)) Z σ H := by
  obtain ⟨xs, k1, k2⟩ := o.get
  refine ⟨_, S.adr hi, .inl ⟨rfl, xs, SqL.of k1⟩, ?_⟩
  refine h σ H F ρ _ S.base ?_
  rw [e]
  intro v H1 F1 x r
  obtain ⟨ys, m1, m3⟩ := (o.ext x).get
  refine ⟨a, ys, v, rfl, rfl, m1, by rw [m3.length]; exact lt_lim hl, ?_⟩
  have c := chg x.s (o.ext x) (m3.append (.cons r .nil))
  refine q _ F1 ((x.unhide (L := [a]) fun y hy => ?_).hide (L' := [a]) (fun y hy => ?_) |>.trans c.1) c.2 (S.move x.f c.1.s)
  · rw [List.mem_singleton.mp hy]
    exact ⟨o.out, o.there⟩
  · rw [List.mem_singleton.mp hy]
    exact ⟨hide_in List.mem_cons_self, (o.ext x).out⟩
theorem clr_rd {i : Nat} {Z : Ends} (S : Sim K cls B [] σ H F ρ) (hi : ρ[i]? = some (some (D.ad a))) (o : Own1 K cls F H a es)
    (q : ∀ H', Ext F (Fn.hide [a] H) F H' → Own1 K cls F H' a [] → Sim K cls (H', F, []) [] σ H' F ρ → Z.nx σ H') : tDrop (tBM0 K "list" rClear (tVar i)) Z σ H := by
  obtain ⟨xs, k1, k2⟩ := o.get
  have c := chg S.s o (ys := []) .nil
  exact ⟨_, S.adr hi, .inl ⟨rfl, xs, SqL.of k1⟩, a, xs, rfl, rfl, k1, q _ c.1 c.2 (S.move (Same.refl _) c.1.s)⟩
theorem ext_rd {W : WX} {i : Nat} {te : TE} {g : Rho → O PyData} {Z : Ends} {ds : List PyData} (h : FE K ⟨cls, xc, W, (H, F, []), false⟩ [] true te g) (S : Sim K cls B [] σ H F ρ) (hi : ρ[i]? = some (some (D.ad a))) (o : Own1 K cls F H a es) (hl : es.length + ds.length ≤ lim) (e : g ρ = .ok (.list ds))
    (q : ∀ H' F', Ext F (Fn.hide [a] H) F' H' → Own1 K cls F' H' a (es ++ ds) → Sim K cls (H', F', []) [] σ H' F' ρ → Z.nx σ H') : tDrop (tBM K "list" rExtend (tVar i) (tCons te tNil)) Z σ H := by
  obtain ⟨xs, k1, k2⟩ := o.get
  refine ⟨_, S.adr hi, .inl ⟨rfl, xs, SqL.of k1⟩, ?_⟩
  refine h σ H F ρ _ S.base ?_
  rw [e]
  intro v H1 F1 x r
  obtain ⟨ys, m1, m3⟩ := (o.ext x).get
  cases r with
  | ls h2 r2 =>
    refine ⟨a, _, ys, _, rfl, rfl, m1, x.s _ _ h2, by rw [m3.length, r2.length]; exact le_lim hl, ?_⟩
    have c := chg x.s (o.ext x) (m3.append r2)
    refine q _ F1 ((x.unhide (L := [a]) fun y hy => ?_).hide (L' := [a]) (fun y hy => ?_) |>.trans c.1) c.2 (S.move x.f c.1.s)
    · rw [List.mem_singleton.mp hy]
      exact ⟨o.out, o.there⟩
    · rw [List.mem_singleton.mp hy]
      exact ⟨hide_in List.mem_cons_self, (o.ext x).out⟩
/-! ### the list stays as it is from here on -/
theorem Sim.frz {G : Hp} {i : Nat} (S : Sim K cls B [] σ H F ρ) (E : Ext F0 G F H) (hi : ρ[i]? = some (some (D.ad a))) (o : Own1 K cls F H a es) (hG : G a = none) :
    ∃ F', Same F F' ∧ Ext F0 G F' H ∧ Sim K cls (H, F', []) [] σ H F' (ρ.set i (some (.list es))) ∧ ∀ b, b ≠ a → F b = none → F' b = none := by
  obtain ⟨ys, h1, h2, h3⟩ := o
  have s1 : Same F (L2.upd F a (.lst ys)) := same_upd h2
  have s2 : Same (L2.upd F a (.lst ys)) H := fun b u q => by
    rcases upd_some q with ⟨rfl, rfl⟩ | ⟨n, q⟩
    · exact h1
    · exact S.s _ _ q
  have S1 := S.move s1 s2
  refine ⟨_, s1, E.keep hG h1, ⟨S1.b, by rw [List.length_set]; exact S1.len, fun j d hj q => ?_, fun j d hj => absurd hj List.not_mem_nil, fun j k d e b hj => absurd hj List.not_mem_nil, S1.tb, S1.ft⟩, fun b hb q => by rw [upd_ne hb]; exact q⟩
  by_cases e : i = j
  · subst e
    obtain ⟨z, _⟩ := get_set q
    cases z
    exact ⟨_, S.adr hi, .ls upd_same (h3.mono s1)⟩
  · rw [get_set_ne e] at q
    exact S1.fro j d hj q
/-! ### lists lent to a call -/
theorem spN_lent {W : XK} {f : List PyData → O PyData} {n : Nat} {vs : List V} {ds : List PyData} {Q : VK} (s : Same F H) (r : Paired (Rep1 K ⟨cls, xc, fun _ _ _ _ => False, (H, F, []), false⟩ F H) vs ds) (hn : ds.length = n) (hf : f ds = .ok (.list es)) (hno : noLs es = true)
    (q : ∀ p xs H' F', Ext F H F' H' → H' p = some (.lst xs) → F' p = none → H p = none → RepL K cls F' xs es → Q (.ref p) H') : spN K cls xc n f vs H Q W := by
  obtain ⟨L, hL, rL⟩ := lent s r
  refine ⟨over L H F, ds, over_in s L, rL, hn, ?_⟩
  rw [hf]
  refine ⟨_, rfl, fun p xs H2 F2 e2 h2 f2 hp r2 => q p xs H2 (less L F F2) (less_ext s e2) h2 ?_ hp (repL_but (less_but hL e2) r2 hno)⟩
  unfold less
  split
  · rfl
  · exact f2
theorem spF_lent {W : XK} {f : List PyData → O PyData} {n : Nat} {vs : List V} {ds : List PyData} {d : PyData} {Q : VK} (s : Same F H) (r : Paired (Rep1 K ⟨cls, xc, fun _ _ _ _ => False, (H, F, []), false⟩ F H) vs ds) (hn : ds.length = n) (hf : f ds = .ok d) (hno : noL d = true)
    (q : ∀ v H' F', Ext F H F' H' → Rep K cls F' v d → Q v H') : spF K cls xc n f vs H Q W := by
  obtain ⟨L, hL, rL⟩ := lent s r
  refine ⟨over L H F, ds, over_in s L, rL, hn, ?_⟩
  rw [hf]
  exact fun v H2 F2 e2 r2 => q v H2 (less L F F2) (less_ext s e2) (repL_but (less_but hL e2) (.cons r2 .nil) (by unfold noLs; rw [hno]; rfl) |> fun z => by cases z with | cons z _ => exact z)
theorem Own1.rep1 {c : Ct} (hc : c.cls = cls) (o : Own1 K cls F H a es) : Rep1 K c F H (.ref a) (.list es) := by
  subst hc
  obtain ⟨ys, h1, h3⟩ := o.get
  exact .inr ⟨a, ys, es, rfl, rfl, h1, h3⟩
theorem args2_rd {i j : Nat} {v u : V} {R : List V → Hp → Prop} (h0 : σ[i]? = some (some v)) (h1 : σ[j]? = some (some u)) (q : R [v, u] H) : tCons (tVar i) (tCons (tVar j) tNil) σ H R := ⟨v, h0, u, h1, q⟩
theorem args3_rd {i j k : Nat} {v u x : V} {R : List V → Hp → Prop} (h0 : σ[i]? = some (some v)) (h1 : σ[j]? = some (some u)) (h2 : σ[k]? = some (some x)) (q : R [v, u, x] H) : tCons (tVar i) (tCons (tVar j) (tCons (tVar k) tNil)) σ H R := ⟨v, h0, u, h1, x, h2, q⟩
theorem args4_rd {i j k l : Nat} {v u x y : V} {R : List V → Hp → Prop} (h0 : σ[i]? = some (some v)) (h1 : σ[j]? = some (some u)) (h2 : σ[k]? = some (some x)) (h3 : σ[l]? = some (some y)) (q : R [v, u, x, y] H) : tCons (tVar i) (tCons (tVar j) (tCons (tVar k) (tCons (tVar l) tNil))) σ H R := ⟨v, h0, u, h1, x, h2, y, h3, q⟩
theorem args7_rd {i0 i1 i2 i3 i4 i5 i6 : Nat} {v0 v1 v2 v3 v4 v5 v6 : V} {R : List V → Hp → Prop} (h0 : σ[i0]? = some (some v0)) (h1 : σ[i1]? = some (some v1)) (h2 : σ[i2]? = some (some v2)) (h3 : σ[i3]? = some (some v3)) (h4 : σ[i4]? = some (some v4)) (h5 : σ[i5]? = some (some v5)) (h6 : σ[i6]? = some (some v6)) (q : R [v0, v1, v2, v3, v4, v5, v6] H) :
    tCons (tVar i0) (tCons (tVar i1) (tCons (tVar i2) (tCons (tVar i3) (tCons (tVar i4) (tCons (tVar i5) (tCons (tVar i6) tNil)))))) σ H R := ⟨v0, h0, v1, h1, v2, h2, v3, h3, v4, h4, v5, h5, v6, h6, q⟩
theorem run_own {c : Ct} {own own' ol : List Nat} {t : TS} {g : Rho → R} {Z : Ends} {ρ' : Rho} (h : FS K c ol own own' t g) (S : Sim K c.cls c.B own σ H F ρ) (e : g ρ = .nx ρ') (q : ∀ σ' H' F', Same F F' → Sim K c.cls c.B own' σ' H' F' ρ' → Z.nx σ' H') : t Z σ H :=
  h Z σ H F ρ S (by rw [e]; exact q)
theorem Sim.rebase (S : Sim K cls B [] σ H F ρ) (e : Ext F0 H0 F H) : Sim K cls (H0, F0, []) [] σ H F ρ where
  tb := fun p hp => absurd hp List.not_mem_nil
  ft := fun p hp => absurd hp List.not_mem_nil
  b := e
  len := S.len
  fro := S.fro
  ow := fun i d hi => absurd hi List.not_mem_nil
  sep := fun i j d e a hi => absurd hi List.not_mem_nil
theorem op_rd {r : R2} {i j : Nat} {v u : V} {Q : VK} (h0 : σ[i]? = some (some v)) (h1 : σ[j]? = some (some u)) (q : r v u H Q) : tOp r (tVar i) (tVar j) σ H Q := ⟨v, h0, u, h1, q⟩
theorem call_rd {sp : Sp} {E : L2.St → XK} {t : TA} {Q : VK} (h : t σ H fun vs H1 => sp vs H1 Q (E σ)) : tCallS sp E t σ H Q := h
/-- if b and not call: .., where the call says True -/
theorem andcall_rd {i : Nat} {b : Bool} {tc : TE} {u : TS} {Z : Ends} (R : Hp → Prop) (k : σ[i]? = some (some (.bl b))) (h0 : b = false → R H) (h1 : b = true → ∀ Q : VK, (∀ H', R H' → Q (.bl true) H') → tc σ H Q) (hR : ∀ H', R H' → Z.nx σ H') :
    tIfS (tAnd (fun σ H Q => tVar i σ H fun x H' => ∃ k, TruV K x H' k ∧ Q k H') (tNot fun σ H Q => tc σ H fun x H' => ∃ k, TruV K x H' k ∧ Q k H')) u tNext Z σ H := by
  refine if_rd ⟨_, k, b, rfl, ?_⟩
  cases b with
  | false => exact ifF (ifF (next_rd (hR _ (h0 rfl))))
  | true => exact ifT (h1 rfl _ fun H' r => ⟨true, rfl, ifF (next_rd (hR _ r))⟩)
/-! ### a loop -/
theorem for_rd {W : WX} {wi : TI} {tg : TG} {tb : TS} {gi : Rho → O (List PyData)} {f : PyData → Rho → O Rho} {Z : Ends} {ds : List PyData} (S : Sim K cls B [] σ H F ρ) (hi : FI K ⟨cls, xc, W, (H, F, []), false⟩ [] wi gi) (hg : ∀ H F, FG K ⟨cls, xc, W, (H, F, []), false⟩ [] tg f) (q : gi ρ = .ok ds)
    (I : Nat → Hp → Hp → Rho → Prop) (h0 : ∀ H' F', Ext F H F' H' → I 0 H' F' ρ) (up : ∀ i H2 F2 ρ2 H3 F3, I i H2 F2 ρ2 → Ext F2 H2 F3 H3 → I i H3 F3 ρ2)
    (step : ∀ (i : Nat) (d : PyData) (H2 F2 : Hp) (ρ2 : Rho) (σ3 : L2.St) (ρ3 : Rho) (Nx : L2.St → Hp → Prop), ds[i]? = some d → Same F F2 → I i H2 F2 ρ2 → f d ρ2 = .ok ρ3 → Sim K cls (H2, F2, []) [] σ3 H2 F2 ρ3 →
      (∀ σ4 H4 F4 ρ4, Same F2 F4 → Sim K cls (H4, F4, []) [] σ4 H4 F4 ρ4 → I (i + 1) H4 F4 ρ4 → Nx σ4 H4) → tb { Z with nx := Nx, ct := Nx, bk := Z.nx } σ3 H2)
    (hf : ∀ (i : Nat) (d : PyData) (H2 F2 : Hp) (ρ2 : Rho), ds[i]? = some d → I i H2 F2 ρ2 → ∃ ρ3, f d ρ2 = .ok ρ3)
    (fin : ∀ σ2 H2 F2 ρ2, Same F F2 → Sim K cls (H2, F2, []) [] σ2 H2 F2 ρ2 → I ds.length H2 F2 ρ2 → Z.nx σ2 H2) : tFor wi tg tb Z σ H := by
  refine hi σ H F ρ _ S.base ?_
  rw [q]
  intro J H1 F1 e it
  refine ⟨fun i m σ2 H2 => m = ds.length - i ∧ i ≤ ds.length ∧ ∃ F2 ρ2, Same F1 F2 ∧ Sim K cls (H2, F2, []) [] σ2 H2 F2 ρ2 ∧ I i H2 F2 ρ2, ⟨ds.length, by omega, Nat.zero_le _, F1, ρ, Same.refl _, S.move e.f e.s, h0 _ _ e⟩, ?_⟩
  rintro i m σ2 H2 ⟨rfl, hle, F2, ρ2, s2, S2, i2⟩
  obtain ⟨j1, j2, j3⟩ := it F2 H2 s2 S2.s i
  by_cases hlt : i < ds.length
  · refine .inr ⟨j1 hlt, fun σ3 H3 => ∃ F3 ρ3, Same F1 F3 ∧ Sim K cls (H3, F3, []) [] σ3 H3 F3 ρ3 ∧ I (i + 1) H3 F3 ρ3, fun σ3 H3 z => ⟨ds.length - (i + 1), by omega, rfl, hlt, z⟩, fun x H3 y => ?_⟩
    have hd := List.getElem?_eq_getElem hlt
    obtain ⟨F3, e3, r3⟩ := j3 x H3 ds[i] hd y
    have i3 := up _ _ _ _ _ _ i2 e3
    obtain ⟨ρ3, h3⟩ := hf i ds[i] _ _ _ hd i3
    refine hg H3 F3 x ds[i] σ2 H3 F3 ρ2 _ (S2.move e3.f e3.s) r3 ?_
    rw [h3]
    exact fun σ3 S3 => step i ds[i] H3 F3 ρ2 σ3 ρ3 _ hd (e.f.trans (s2.trans e3.f)) i3 h3 S3 fun σ4 H4 F4 ρ4 s4 S4 i4 => ⟨F4, ρ4, s2.trans (e3.f.trans s4), S4, i4⟩
  · have : i = ds.length := by omega
    subst this
    exact .inl ⟨j2 rfl, fin σ2 H2 F2 ρ2 (e.f.trans s2) S2 i2⟩
end
end Fn

set_option Elab.async false
set_option linter.all false
set_option maxRecDepth 100000
/-! Texts: split, join, startswith, a text some times. -/
namespace Fn
open PySem PySem.Spec PyProof.Rows L2
section
variable {K : PySem.W.Frag} {c : Ct} {own : List Nat} {b : Bool} {F H F' H' : Hp} {σ : L2.St} {ρ : Rho}
abbrev rSplit : V → List V → Hp → VK → Prop := fun x xs H Q => ∃ a b, x = .str a ∧ xs = [.str b] ∧ (b.length == 0) = false ∧ a.length + 2 ≤ sizeLine ∧ rNewStrs (Txt.split a b) H Q
abbrev rJoin (K : PySem.W.Frag) : V → List V → Hp → VK → Prop := fun x xs H Q => ∃ a p, ∃ ys : List Str, x = .str a ∧ xs = [.ref p] ∧ (SqL K H p (ys.map V.str) ∨ SqT K H p (ys.map V.str)) ∧ (ys.map (·.length)).sum + ys.length * a.length ≤ 16777216 ∧ Q (.str (Txt.join a ys)) H
abbrev rStarts : V → List V → Hp → VK → Prop := fun x xs H Q => ∃ a b, x = .str a ∧ xs = [.str b] ∧ Q (.bl (Txt.startswith a b)) H
theorem RepL.strs : ∀ (ys : List Str), RepL K c.cls F (ys.map V.str) (ys.map PyData.str)
  | [] => .nil
  | y :: ys => .cons (.str y) (RepL.strs ys)
theorem RepL.of_strs : ∀ {vs : List V} (ys : List Str), RepL K c.cls F vs (ys.map PyData.str) → vs = ys.map V.str
  | _, [], h => by cases h; rfl
  | _, y :: ys, h => by
    cases h with
    | cons r t =>
      cases r
      rw [RepL.of_strs ys t]
      rfl
/-- the texts of a list's data -/
def strsOf : List PyData → Option (List Str)
  | [] => some []
  | .str y :: ds => (strsOf ds).map (y :: ·)
  | _ :: _ => none
theorem strsOf_eq : ∀ {ds : List PyData} {ys : List Str}, strsOf ds = some ys → ds = ys.map PyData.str
  | [], ys, h => by cases h; rfl
  | d :: ds, ys, h => by
    unfold strsOf at h
    split at h
    · rename_i e; cases e
    · rename_i y ds' e
      cases e
      obtain ⟨zs, h1, rfl⟩ := Option.map_eq_some_iff.mp h
      rw [strsOf_eq h1]
      rfl
    · cases h
theorem strsOf_map : ∀ ys : List Str, strsOf (ys.map PyData.str) = some ys
  | [] => rfl
  | y :: ys => by
    show (strsOf (ys.map PyData.str)).map (y :: ·) = _
    rw [strsOf_map ys]
    rfl
def dSplit (a : Str) : PyData → O PyData
  | .str b => if (b.length == 0) = false ∧ a.length + 2 ≤ lim then .ok (.list ((Txt.split a b).map PyData.str)) else .bad
  | _ => .bad
def limJ : Nat := 16777216
theorem limJ_ge {n : Nat} (h : n ≤ 100000) : n ≤ limJ := by unfold limJ; omega
def dJoin (a : Str) : PyData → O PyData
  | .list ds => match strsOf ds with
    | some ys => if (ys.map (·.length)).sum + ys.length * a.length ≤ limJ then .ok (.str (Txt.join a ys)) else .bad
    | none => .bad
  | _ => .bad
def dStarts (a : Str) : PyData → O PyData
  | .str b => .ok (.bool (Txt.startswith a b))
  | _ => .bad
def gStr (op : Str → PyData → O PyData) (ga gb : Rho → O PyData) : Rho → O PyData := fun ρ => (ga ρ).bind fun d => match d with
  | .str a => (gb ρ).bind (op a)
  | _ => .bad
theorem gSplit_list {ga gb : Rho → O PyData} : ∀ ρ d, gStr dSplit ga gb ρ = .ok d → ∃ ds, d = .list ds := fun ρ d h => by
  obtain ⟨x, _, h⟩ := O.bind_okI h
  split at h
  · obtain ⟨y, _, h⟩ := O.bind_okI h
    unfold dSplit at h
    split at h
    · split at h
      · cases h; exact ⟨_, rfl⟩
      · cases h
    · cases h
  · cases h
theorem fo_split {ta tb : TE} {ga gb : Rho → O PyData} (ha : FE K c own false ta ga) (hb : FE K c own false tb gb) : FO K c own (tM1 rSplit ta tb) (gStr dSplit ga gb) := fun σ H F ρ Q S q => by
  refine ha σ H F ρ _ S (OPost.imp (fun d q v H1 F1 e1 r1 => ?_) (fun _ q => q) (OPost.bind q))
  replace r1 : Rep1 K c F1 H1 v d := r1
  split at q
  · rename_i a
    refine ⟨⟨a, r1.str⟩, ?_⟩
    refine hb σ H1 F1 ρ _ (S.ext e1) (OPost.imp (fun e q u H2 F2 e2 r2 => ?_) (fun _ q H2 s => q H2 (e1.h.trans s)) (OPost.bind q))
    replace r2 : Rep1 K c F2 H2 u e := r2
    unfold dSplit at q
    split at q
    · split at q
      · rename_i b' h
        obtain ⟨ds, e0, q⟩ := q
        cases e0
        refine ⟨a, b', r1.str, by rw [r2.str], h.1, le_lim h.2, fun p hp => ?_⟩
        exact q p _ _ F2 ((e1.trans e2).trans (Ext.newO e2.s hp)) upd_same (e2.s.free hp) ((e1.trans e2).h.free hp) (RepL.strs _)
      · exact q.elim
    · exact q.elim
  · exact q.elim
theorem fe_join {ta tb : TE} {ga gb : Rho → O PyData} (ha : FE K c own false ta ga) (hb : FE K c own false tb gb) : FE K c own b (tM1 (rJoin K) ta tb) (gStr dJoin ga gb) := FE.any fun σ H F ρ Q S q => by
  refine ha σ H F ρ _ S (OPost.imp (fun d q v H1 F1 e1 r1 => ?_) (fun _ q => q) (OPost.bind q))
  replace r1 : Rep1 K c F1 H1 v d := r1
  split at q
  · rename_i a
    refine ⟨⟨a, r1.str⟩, ?_⟩
    refine hb σ H1 F1 ρ _ (S.ext e1) (OPost.imp (fun e q u H2 F2 e2 r2 => ?_) (fun _ q H2 s => q H2 (e1.h.trans s)) (OPost.bind q))
    replace r2 : Rep1 K c F2 H2 u e := r2
    unfold dJoin at q
    split at q
    · rename_i ds
      split at q
      · rename_i ys hy
        split at q
        · rename_i h
          obtain ⟨p, xs, rfl, hp, rx⟩ := r2.lst e2.s
          rw [strsOf_eq hy] at rx
          rw [RepL.of_strs ys rx] at hp
          exact ⟨a, p, ys, r1.str, rfl, .inl (SqL.of hp), h, q _ H2 F2 (e1.trans e2) (.str _)⟩
        · exact q.elim
      · exact q.elim
    · exact q.elim
  · exact q.elim
theorem fe_starts {ta tb : TE} {ga gb : Rho → O PyData} (ha : FE K c own false ta ga) (hb : FE K c own false tb gb) : FE K c own b (tM1 rStarts ta tb) (gStr dStarts ga gb) := FE.any fun σ H F ρ Q S q => by
  refine ha σ H F ρ _ S (OPost.imp (fun d q v H1 F1 e1 r1 => ?_) (fun _ q => q) (OPost.bind q))
  replace r1 : Rep1 K c F1 H1 v d := r1
  split at q
  · rename_i a
    refine ⟨⟨a, r1.str⟩, ?_⟩
    refine hb σ H1 F1 ρ _ (S.ext e1) (OPost.imp (fun e q u H2 F2 e2 r2 => ?_) (fun _ q H2 s => q H2 (e1.h.trans s)) (OPost.bind q))
    replace r2 : Rep1 K c F2 H2 u e := r2
    unfold dStarts at q
    split at q
    · exact ⟨a, _, r1.str, by rw [r2.str], q _ H2 F2 (e1.trans e2) (.bl _)⟩
    · exact q.elim
  · exact q.elim
/-! a text some times -/
def mulSOk (x : Str) (n : Int) : Bool := decide (1 < n ∧ n ≤ 10000 ∧ x.length ≤ 10 ∧ 0 < x.length)
def rMulS : R2 := fun x y H Q => ∃ i n, x = .str i ∧ y = .int n ∧ PySem.MulOk i n ∧ Q (.str (Txt.mul i n)) H
theorem op_mulS {X : Cx} : OpR X (binaryOp .Mult) rMulS := by
  intro pins s σ H x y v u Q I rx ry h
  obtain ⟨i, n, rfl, rfl, hok, q⟩ := h
  obtain ⟨t, rfl⟩ := rx
  obtain ⟨t', rfl⟩ := ry
  exact SB.mul hok fun t' k => ⟨.str (Txt.mul i n), H, I.tok _, ⟨_, rfl⟩, q⟩
def dMulS : PyData → PyData → O PyData
  | .str i, .int n => if mulSOk i n = true then .ok (.str (Txt.mul i n)) else .bad
  | _, _ => .bad
theorem mulSOk_ok {x : Str} {n : Int} (h : mulSOk x n = true) : PySem.MulOk x n := by
  obtain ⟨h1, h2, h3, h4⟩ := of_decide_eq_true h
  refine ⟨?_, fun _ _ z => ?_, fun _ _ => ?_⟩
  · rw [decide_eq_false (by omega), decide_eq_false (by omega)]
    rfl
  · have : (10 : Int) ≤ (2 ^ 63 - 1) / n := by
      refine Int.le_ediv_of_mul_le (by omega) ?_
      omega
    omega
  · unfold Builtin.Str.tooLong
    refine decide_eq_false ?_
    have h5 : n.toNat ≤ 10000 := by omega
    have h6 : x.length * n.toNat ≤ 10 * 10000 := Nat.mul_le_mul h3 h5
    have h7 : 100000 ≤ sizeLine := by decide
    omega
theorem opf_mulS : OpF K c b rMulS dMulS := fun F H x y d e Q s rx ry q => by
  unfold dMulS at q
  split at q
  · split at q
    · rename_i i n h
      exact ⟨i, n, rx.str, ry.int, mulSOk_ok h, q _ H F (Ext.refl s) (.of (.str _))⟩
    · exact q.elim
  · exact q.elim
end
abbrev gMulS := g2 fun d e => noEx (dMulS d e)
end Fn

set_option Elab.async false
set_option linter.all false
set_option maxRecDepth 100000
/-! A caught refusal that is handed to a def, within the except suite. -/
namespace Fn
open PySem PySem.Spec PyProof.Rows L2 L2H
/-- the def tells b of the caught exception at a -/
def rPin (a : Addr) (b : Bool) : List V → Hp → VK → Prop := fun xs H Q => xs = [.ref a] ∧ Q (.bl b) H
section
variable {X : Cx} {a : Addr} {oe : Obj} {b : Bool} {x qual n : Str} {st : Stmt} {f : Addr} {fd : FuncData} {N : List Str} {k : Nat} {q pos : Pos} {e : Expr} {te : TE}
theorem run_pin {pins : List (Addr × Obj)} {σ : L2.St} {H : Hp} {s : Shared} {Q : VK} {us : List Value} {vs : List V} (F : Fun X.K x qual st f fd) (S : FnScope N [n] (defScope st)) (hr : RoomH (k + 1) X.A) (hp : (a, oe) ∈ X.pn) (hb : Binds X.K fd [n] []) (tk : Takes X fun _ _ _ _ => False)
    (hbody : ∀ (cdv : Value) (s : Shared) (H : Hp), RoomH k (X.A.deeper (envOfC qual (defScope st) s.heap.objs.size f cdv)) →
      ∃ t, PSs (cxH (L2.CX X.prog X.w) X.prog X.w X.K X.mg X.base N qual (defScope st) f cdv X.A X.stack s H (fun _ _ _ => False) (a, oe)) (defBody st) t ∧ ∀ Q : VK, Q (.bl b) H → t { nx := fun _ H' => Q .non H', rt := Q } (L2.start N [.ref a]) H)
    (I : Inv X pins σ H s) (r : Vals vs us) (h : rPin a b vs H Q) : wpAny (model X.prog X.w) X.A (call (.ref f) us) (EP X pins σ Q) X.xe s := by
  obtain ⟨rfl, h⟩ := h
  obtain ⟨oc, od, kV, doc, pm, an, cdv, ct, osl, rfl, lk, hcd⟩ := F.ex
  have e0 := I.env0
  have lim := I.nolimit
  have bd := hb s us I.kIn (by rw [List.append_nil, ← r.length]; rfl)
  rw [List.append_nil] at bd
  obtain ⟨g1, g2, g3, g4, g5⟩ := I.pin (a, oe) (List.mem_append_left _ hp)
  have hpin : PinOk X.stack H s (a, oe) := ⟨g1, g2, fun hm => (List.mem_cons.mp (I.stkSub a hm)).elim g3 g4, g5⟩
  have known : ∀ y ∈ [n].zip us, (defScope st).names.lookup y.1 = some .local ∨ ((defScope st).names.lookup y.1 = some .cell ∧ ((cellsFrom (s.heap.objs.size + 1) (defScope st).names []).lookup y.1).isSome = true) := fun y hy => by
    rcases S.par y.1 (List.of_mem_zip hy).1 with z | z
    · exact .inl z
    · exact .inr ⟨z, PySem.W.cellsFrom_some _ _ _ (.inl z)⟩
  refine wpAny_call (codeAny_mono (codeAny_call_function (R := CR (L2.CX X.prog X.w) X.stack X.prog X.w H s Q fun _ _ _ => False) hr.depth (I.kIn _ _ lk) rfl S.co S.gen rfl (PySem.W.codeRec_of I.kIn hcd) (bd _ _ _ _ ?_)) fun w s' z => ?_)
  · refine wpAny_newFunctionEnv_cells S.kind known fun env he s1 x => ?_
    subst he
    refine ⟨lim.keeps x.toInCall.keep, codeAny_func ?_⟩
    obtain ⟨t, ht, hq⟩ := hbody cdv s H (hr.deeper _)
    have J := inv_startH (CX := L2.CX X.prog X.w) (E := fun _ _ _ => False) S hpin e0 rfl r x
    refine wpAny_mono (ht.run [] s1 _ H _ J (hq Q h)) (fun fl s' z => ?_) fun e s' z => z
    cases fl with
    | ret u =>
      obtain ⟨v, σ', H', J', rv, q⟩ := z
      exact ⟨v, H', J'.os, J'.bare, J'.base, J'.hok, rv, q⟩
    | next =>
      obtain ⟨σ', H', J', q⟩ := z
      exact ⟨.non, H', J'.os, J'.bare, J'.base, J'.hok, rfl, q⟩
    | brk => obtain ⟨_, _, _, q⟩ := z; exact q.elim
    | cont => obtain ⟨_, _, _, q⟩ := z; exact q.elim
  · cases w with
    | error e => exact passAt tk σ pins H s e s' I z
    | ok fl =>
      cases fl with
      | ret u => exact I.after z
      | next => exact z.elim
      | brk => exact z.elim
      | cont => exact z.elim
theorem pe_callP (F : Fun X.K x qual st f fd) (S : FnScope N [n] (defScope st)) (hr : RoomH (k + 1) X.A) (hp : (a, oe) ∈ X.pn) (hg : Gl X x) (hm : X.mg x = some (.ref f)) (hb : Binds X.K fd [n] []) (tk : Takes X fun _ _ _ _ => False)
    (hbody : ∀ (cdv : Value) (s : Shared) (H : Hp), RoomH k (X.A.deeper (envOfC qual (defScope st) s.heap.objs.size f cdv)) →
      ∃ t, PSs (cxH (L2.CX X.prog X.w) X.prog X.w X.K X.mg X.base N qual (defScope st) f cdv X.A X.stack s H (fun _ _ _ => False) (a, oe)) (defBody st) t ∧ ∀ Q : VK, Q (.bl b) H → t { nx := fun _ H' => Q .non H', rt := Q } (L2.start N [.ref a]) H)
    (ha : PE X e te) (hdb : (x == ("__debug__" : Str)) = false := by decide) (he : starEach [e] X.env = (false, eval e X.env) :: starEach [] X.env := by rfl) (hpl : (backTo pos (starEach [] X.env)).any (·.1) = false := by rfl) :
    PE X (.Call (.Name x q) [e] [] pos) (tCB (rPin a b) (tCons te tNil)) := by
  refine ⟨fun pins s σ H Q I h => ?_⟩
  refine wpAny_Call_Name_kw (ld_glob I hg hm ?_ hdb)
  exact PySem.W.callWith_K (h₀ := X.base) I.ok.mod.kin F.kp (thn ((pa_cons ha pa_nil he).run pos pins s σ H _ I h) fun us s1 ⟨vs, H1, I1, r, q⟩ => ⟨I1.kIn, run_pin F S hr hp hb tk hbody I1 r q⟩) he hpl
/-- isinstance of a pinned refusal -/
theorem call_isP {D : Addr} (C : ExcC X.K D) (hz : Zc (.ref D) none oe) (hf : ∃ vs, oe.data = .fields vs) (hp : (a, oe) ∈ X.pn) : CallR X (.builtin "isinstance") (rIsE X.K D a) := by
  intro pins s σ H xs us Q I r ⟨c, cv, k, hxs, hcv, hk, q⟩
  subst hxs
  cases r with
  | cons r1 r2 => cases r2 with
    | cons r2 r3 =>
      cases r3
      cases r1
      have := hcv _ r2
      subst this
      obtain ⟨g1, _⟩ := I.pin (a, oe) (List.mem_append_left _ hp)
      have inst : PySem.W.InstAt s.heap a oe D none := by
        obtain ⟨vs, hv⟩ := hf
        cases oe
        obtain ⟨z1, z2⟩ := hz
        cases z1
        cases z2
        cases hv
        exact ⟨g1, rfl, rfl, trivial⟩
      exact PySem.W.kia_one (PySem.W.handS_kitx_exc C.hg C.hk C.hs C.hd C.ha C.hn C.ht C.hm) I.kIn inst hk (fun z => nomatch z) fun t => ⟨.bl k, H, I.kept (t' := t) fun _ _ z => z, rfl, q⟩
theorem pe_isP {D : Addr} {v : V} {i : Nat} {nm c : Str} {p p1 p2 : Pos} (C : ExcC X.K D) (hz : Zc (.ref D) none oe) (hf : ∃ vs, oe.data = .fields vs) (hp : (a, oe) ∈ X.pn) (hm : X.mg "isinstance" = none) (hg : Gl X "isinstance") (h1 : PE X (.Name nm p1) (tVar i)) (h2 : PE X (.Name c p2) (tC v)) :
    PE X (.Call (.Name "isinstance" p) [.Name nm p1, .Name c p2] [] pos) (tIsE X.K D a i v) :=
  pe_callB (call_isP C hz hf hp) hg hm bt_isinstance (pa_cons h1 (pa_cons h2 pa_nil))
end
end Fn

set_option Elab.async false
set_option linter.all false
set_option maxRecDepth 100000
namespace K02
open PySem PySem.Spec L2 Fn
def topS (i : Nat) : Stmt := PySem.Challenge.pw_wholecut_k02_rows_written.main.body.getD i (.Pass ⟨0, 0, 0, 0⟩)
structure Top (K : PySem.W.Frag) (mg : Str → Option Value) (xc cls : Nat → Addr) : Prop where
  n_abs : mg "abs" = none
  n_all : mg "all" = none
  n_bool : mg "bool" = none
  n_int : mg "int" = none
  n_isinstance : mg "isinstance" = none
  n_len : mg "len" = none
  n_range : mg "range" = none
  n_str : mg "str" = none
  n_tuple : mg "tuple" = none
  i_MOST_UNKNOWNS : IntAt mg "MOST_UNKNOWNS" (3)
  i_GREATEST_NUMBER : IntAt mg "GREATEST_NUMBER" (50)
  i_GREATEST_BOUND : IntAt mg "GREATEST_BOUND" (2000)
  e_CutError : ExcAt K mg "CutError" (xc 0)
  e_BadProblem : ExcAt K mg "BadProblem" (xc 1)
  e_BadPoint : ExcAt K mg "BadPoint" (xc 2)
  e_BadBox : ExcAt K mg "BadBox" (xc 3)
  e_BadWeights : ExcAt K mg "BadWeights" (xc 4)
  e_NoTurn : ExcAt K mg "NoTurn" (xc 5)
  e_BadText : ExcAt K mg "BadText" (xc 6)
  d_is_word : DefAt K mg "is_word" (topS 12) ["word"]
  d_shown : DefAt K mg "shown" (topS 14) ["row"]
  d_read : DefAt K mg "read" (topS 15) ["text"]
  d_number_read : DefAt K mg "number_read" (topS 16) ["part", "greatest"]
  d_are_figures : DefAt K mg "are_figures" (topS 17) ["text"]
  d__law_cell_at : DefAt K mg "_law_cell_at" (topS 19) ["_law_script", "_law_k"]
  d__law_whole : DefAt K mg "_law_whole" (topS 20) ["_law_found"]
  d__law_number_in : DefAt K mg "_law_number_in" (topS 21) ["_law_word", "_law_most"]
  d__law_read : DefAt K mg "_law_read" (topS 22) ["_law_text_here"]
  d__law_odd : DefAt K mg "_law_odd" (topS 23) ["_law_cell"]
  d__law_text : DefAt K mg "_law_text" (topS 24) ["_law_text_here", "_law_kind", "_law_cell"]
  d__law_refused : DefAt K mg "_law_refused" (topS 25) ["_law_text_here"]
  d_law : DefAt K mg "law" (topS 26) ["_law_script"]
section
variable {P : Program} {w : World} {K : PySem.W.Frag} {mg : Str → Option Value} {base : Heap} {cls xc : Nat → Addr}
/-! ### is_word -/
abbrev st_is_word : Stmt := topS 12
theorem sc_is_word : FnScope ["word"] ["word"] (defScope st_is_word) := ⟨rfl, rfl, rfl, by decide +kernel, rfl, by decide +kernel, by decide +kernel⟩
def g_is_word : Rho → R :=
    (gRet (gAndV (gIsi "str" (gVar 0)) (gIn (gVar 0) (gTup (gConsA (gC (.str "most")) (gConsA (gC (.str "least")) gNilA))))))
def f_is_word : List PyData → O PyData := fnG 1 g_is_word
theorem ok_is_word (T : Top K mg xc cls) : OkAt P w K mg base cls xc "is_word" ["word"] 1 1 f_is_word :=
  okAt_of T.d_is_word sc_is_word g_is_word [] fun f cdv A outer s H E F0 hr => ⟨_, (pss_one (ps_ret (pe_and (pe_callB call_isi (by rfl) T.n_isinstance bt_isinstance (pa_cons (pv 0) (pa_cons (pe_bltn (v := .ty "str") (by rfl) T.n_str bt_str rfl) pa_nil))) (pe_one (pe_cmpR op_inAll (pv 0) (pe_tup (pa_cons pe_str (pa_cons pe_str pa_nil))) (by rfl)))))),
    (fs_ret (fe_and (fe_isi kit_str (fe_var rfl)) (fe_op opf_in (fe_var rfl) (fe_tup (fa_cons (fe_str "most") (fa_cons (fe_str "least") fa_nil))))))⟩
/-! ### shown -/
abbrev st_shown : Stmt := topS 14
theorem sc_shown : FnScope ["row", "numbers", "word", "bound", "number"] ["row"] (defScope st_shown) := ⟨rfl, rfl, rfl, by decide +kernel, rfl, by decide +kernel, by decide +kernel⟩
def g_shown : Rho → R :=
    (gSeq (gAsg (aTup (aCons (aName 1) (aCons (aName 2) (aCons (aName 3) aNil)))) (gVar 0))
    (gRet (gStr dJoin (gC (.str " ")) (gAdd (gComp [4] (aName 4) gYes (gB bStr (gConsA (gVar 4) gNilA)) (gItA (gVar 1))) (gLst (gConsA (gVar 2) (gConsA (gB bStr (gConsA (gVar 3) gNilA)) gNilA)))))))
def f_shown : List PyData → O PyData := fnG 5 g_shown
theorem ok_shown (T : Top K mg xc cls) : OkAt P w K mg base cls xc "shown" ["row"] 1 1 f_shown :=
  okAt_of T.d_shown sc_shown g_shown [] fun f cdv A outer s H E F0 hr => ⟨_, (pss_cons (ps_asg (pv 0) (pg_tup (by rfl) (pgs_cons (pg_name (i := 1) sc_shown.nd rfl (by first | exact Or.inl rfl | exact Or.inr rfl)) (pgs_cons (pg_name (i := 2) sc_shown.nd rfl (by first | exact Or.inl rfl | exact Or.inr rfl)) (pgs_cons (pg_name (i := 3) sc_shown.nd rfl (by first | exact Or.inl rfl | exact Or.inr rfl)) pgs_nil)))))
      (pss_one (ps_ret (pe_join pe_str (pe_op op_addAll (pe_lc (own := [("number", 4)]) rfl sc_shown.nd (pi_any (pv 1)) (blkOk_by (N := ["row", "numbers", "word", "bound", "number"]) (sc := defScope st_shown) (own := [("number", 4)]) (by decide +kernel)) (fun _ _ _ _ _ => (pg_name (i := 4) sc_shown.nd rfl (by first | exact Or.inl rfl | exact Or.inr rfl))) (fun _ _ _ _ _ => pts_nil) (fun _ _ _ _ _ => (pe_callTy call_str_int (by rfl) T.n_str bt_str (pa_cons (pv 4) pa_nil)))) (pe_lst (pa_cons (pv 2) (pa_cons (pe_callTy call_str_int (by rfl) T.n_str bt_str (pa_cons (pv 3) pa_nil)) pa_nil)))))))),
    (fs_seq (own1 := []) (fs_asg (fe_var rfl) (fg_tup (fgs_cons (fg_name rfl) (fgs_cons (fg_name rfl) (fgs_cons (fg_name rfl) fgs_nil))) (aCons_len (aCons_len (aCons_len aNil_len aName_ex) aName_ex) aName_ex)) (aTup_ex (aCons_ex aName_ex (aCons_ex aName_ex (aCons_ex aName_ex aNil_ex)))))
      (fs_ret (fe_join (fe_str " ") (fe_op opf_add (fe_comp (vs := [4]) (fi_any (fe_var rfl)) (fc_name rfl rfl) aName_ex ft_yes (fe_callB cf_str (fa_cons (fe_var rfl) fa_nil))) (fe_lst (fa_cons (fe_var rfl) (fa_cons (fe_callB cf_str (fa_cons (fe_var rfl) fa_nil)) fa_nil)))))))⟩
/-! ### are_figures -/
abbrev st_are_figures : Stmt := topS 17
theorem sc_are_figures : FnScope ["text", "sign"] ["text"] (defScope st_are_figures) := ⟨rfl, rfl, rfl, by decide +kernel, rfl, by decide +kernel, by decide +kernel⟩
def g_are_figures : Rho → R :=
    (gSeq (gIfS (gOrT (gBl (gEq (gVar 0) (gC (.str "")))) (gNotT (gTru (gB bAll (gConsA (gComp [1] (aName 1) gYes (gIn (gVar 1) (gC (.str "0123456789"))) (gItA (gVar 0))) gNilA))))) (gRet (gC (.bool false))) gNext)
    (gRet (gOrV (gEq (gVar 0) (gC (.str "0"))) (gNe (gIx (gVar 0) (gC (.int 0))) (gC (.str "0"))))))
def f_are_figures : List PyData → O PyData := fnG 2 g_are_figures
theorem ok_are_figures (T : Top K mg xc cls) : OkAt P w K mg base cls xc "are_figures" ["text"] 1 1 f_are_figures :=
  okAt_of T.d_are_figures sc_are_figures g_are_figures [] fun f cdv A outer s H E F0 hr => ⟨_, (pss_cons (ps_if (PW.pt (pw_or (pt_cmpR (op_eqAll hr.units) (pv 0) pe_str (nomark _)) (pw_or1 (pt_not (pt_truth (pe_callB (cr_all rfl) (by rfl) T.n_all bt_all (pa_cons (pe_lc (own := [("sign", 1)]) rfl sc_are_figures.nd (pi_any (pv 0)) (blkOk_by (N := ["text", "sign"]) (sc := defScope st_are_figures) (own := [("sign", 1)]) (by decide +kernel)) (fun _ _ _ _ _ => (pg_name (i := 1) sc_are_figures.nd rfl (by first | exact Or.inl rfl | exact Or.inr rfl))) (fun _ _ _ _ _ => pts_nil) (fun _ _ _ _ _ => (pe_cmpR op_inAll (pv 1) pe_str (by rfl)))) pa_nil)) (by intro _; rfl)))))) (pss_one (ps_ret pe_bl)) pss_nil)
      (pss_one (ps_ret (pe_or (pe_cmpR (op_eqAll hr.units) (pv 0) pe_str (nomark _)) (pe_one (pe_cmpR (op_neAll hr.units) (pe_ix ix_seq (pv 0) pe_int (fun _ _ => rfl)) pe_str (nomark _))))))),
    (fs_seq (own1 := []) (fs_if (own' := []) (ft_or (ft_test (fe_op opf_eq (fe_var rfl) (fe_str ""))) (ft_not (ft_truth (fe_callB cf_all (fa_cons (fe_comp (vs := [1]) (fi_any (fe_var rfl)) (fc_name rfl rfl) aName_ex ft_yes (fe_op opf_in (fe_var rfl) (fe_str "0123456789"))) fa_nil))))) (fs_ret (fe_bool false)) fs_next)
      (fs_ret (fe_or (fe_op opf_eq (fe_var rfl) (fe_str "0")) (fe_op opf_ne (fe_op opf_ix (fe_var rfl) (fe_int 0)) (fe_str "0")))))⟩
/-! ### number_read -/
abbrev st_number_read : Stmt := topS 16
theorem sc_number_read : FnScope ["part", "greatest", "figures", "number"] ["part", "greatest"] (defScope st_number_read) := ⟨rfl, rfl, rfl, by decide +kernel, rfl, by decide +kernel, by decide +kernel⟩
def g_number_read : Rho → R :=
    (gSeq (gSet 2 (gIf (gTru (gStr dStarts (gVar 0) (gC (.str "-")))) (gSl (gVar 0) (gPart (gC (.int 1))) gNoP) (gVar 0)))
    (gSeq (gIfS (gOrT (gBl (gGt (gB bLen (gConsA (gVar 2) gNilA)) (gB bLen (gConsA (gB bStr (gConsA (gVar 1) gNilA)) gNilA)))) (gOrT (gNotT (gTru (gFn 1 f_are_figures (gConsA (gVar 2) gNilA)))) (gBl (gEq (gVar 0) (gC (.str "-0")))))) (gRaise 6) gNext)
    (gSeq (gSet 3 (gIf (gBl (gEq (gVar 2) (gVar 0))) (gB bInt (gConsA (gVar 2) gNilA)) (gNeg (gB bInt (gConsA (gVar 2) gNilA)))))
    (gSeq (gIfS (gBl (gGt (gB bAbs (gConsA (gVar 3) gNilA)) (gVar 1))) (gRaise 6) gNext)
    (gRet (gVar 3))))))
def f_number_read : List PyData → O PyData := fnG 4 g_number_read
theorem ok_number_read (T : Top K mg xc cls) : OkAt P w K mg base cls xc "number_read" ["part", "greatest"] 2 2 f_number_read :=
  okAt_of T.d_number_read sc_number_read g_number_read [] fun f cdv A outer s H E F0 hr => ⟨_, (pss_cons (ps_set (i := 2) sc_number_read.nd rfl (by first | exact Or.inl rfl | exact Or.inr rfl) (pe_ifExp (pt_truth (pe_m1 PySem.F.slot_str_startswith PySem.F.type_str_startswith mt_startswith (pv 0) pe_str) (by intro _; rfl)) (pe_slice sl_all (pv 0) (po_some pe_int) po_none) (pv 0)))
      (pss_cons (ps_if (PW.pt (pw_or (pt_cmpR op_gt (pe_callB call_len (by rfl) T.n_len bt_len (pa_cons (pv 2) pa_nil)) (pe_callB call_len (by rfl) T.n_len bt_len (pa_cons (pe_callTy call_str_int (by rfl) T.n_str bt_str (pa_cons (pv 1) pa_nil)) pa_nil)) (nomark _)) (pw_or (pt_not (pt_truth (pe_callO (ok_are_figures T) hr (by decide) (by rfl) (takes_of rfl rfl rfl rfl) (pa_cons (pv 2) pa_nil)) (by intro _; rfl))) (pw_or1 (pt_cmpR (op_eqAll hr.units) (pv 0) pe_str (nomark _)))))) (pss_one (ps_raiseO rfl (takes_of rfl rfl rfl rfl) T.e_BadText (by rfl))) pss_nil)
      (pss_cons (ps_set (i := 3) sc_number_read.nd rfl (by first | exact Or.inl rfl | exact Or.inr rfl) (pe_ifExp (pt_cmpR (op_eqAll hr.units) (pv 2) (pv 0) (nomark _)) (pe_callTy cr_intAll (by rfl) T.n_int bt_int (pa_cons (pv 2) pa_nil)) (pe_un un_neg (pe_callTy cr_intAll (by rfl) T.n_int bt_int (pa_cons (pv 2) pa_nil)))))
      (pss_cons (ps_if (pt_cmpR op_gt (pe_callB call_abs (by rfl) T.n_abs bt_abs (pa_cons (pv 3) pa_nil)) (pv 1) (nomark _)) (pss_one (ps_raiseO rfl (takes_of rfl rfl rfl rfl) T.e_BadText (by rfl))) pss_nil)
      (pss_one (ps_ret (pv 3))))))),
    (fs_seq (own1 := []) (fs_set (fe_if (ft_truth (fe_starts (fe_var rfl) (fe_str "-"))) (fe_slice (fe_var rfl) (fp_some (fe_int 1)) fp_none) (fe_var rfl)) rfl)
      (fs_seq (own1 := []) (fs_if (own' := []) (ft_or (ft_test (fe_op opf_gt (fe_callB cf_len (fa_cons (fe_var rfl) fa_nil)) (fe_callB cf_len (fa_cons (fe_callB cf_str (fa_cons (fe_var rfl) fa_nil)) fa_nil)))) (ft_or (ft_not (ft_truth (fe_call rfl (fa_cons (fe_var rfl) fa_nil)))) (ft_test (fe_op opf_eq (fe_var rfl) (fe_str "-0"))))) (fs_raise (n := 6) rfl rfl) fs_next)
      (fs_seq (own1 := []) (fs_set (fe_if (ft_test (fe_op opf_eq (fe_var rfl) (fe_var rfl))) (fe_callB cf_int (fa_cons (fe_var rfl) fa_nil)) (fe_un unf_neg (fe_callB cf_int (fa_cons (fe_var rfl) fa_nil)))) rfl)
      (fs_seq (own1 := []) (fs_if (own' := []) (ft_test (fe_op opf_gt (fe_callB cf_abs (fa_cons (fe_var rfl) fa_nil)) (fe_var rfl))) (fs_raise (n := 6) rfl rfl) fs_next)
      (fs_ret (fe_var rfl))))))⟩
/-! ### read -/
abbrev st_read : Stmt := topS 15
theorem sc_read : FnScope ["text", "parts", "numbers", "part"] ["text"] (defScope st_read) := ⟨rfl, rfl, rfl, by decide +kernel, rfl, by decide +kernel, by decide +kernel⟩
def g_read : Rho → R :=
    (gSeq (gIfS (gNotT (gTru (gIsi "str" (gVar 0)))) (gRaise 6) gNext)
    (gSeq (gSet 1 (gStr dSplit (gVar 0) (gC (.str " "))))
    (gSeq (gIfS (gOrT (gNotT (gBl (gChain dLe dLe (gC (.int 3)) (gB bLen (gConsA (gVar 1) gNilA)) (gAdd (gC (.int (3))) (gC (.int 2)))))) (gNotT (gTru (gFn 1 f_is_word (gConsA (gIx (gVar 1) (gNeg (gC (.int 2)))) gNilA))))) (gRaise 6) gNext)
    (gSeq (gSet 2 (gComp [3] (aName 3) gYes (gFn 2 f_number_read (gConsA (gVar 3) (gConsA (gC (.int (50))) gNilA))) (gItA (gSl (gVar 1) gNoP (gPart (gNeg (gC (.int 2))))))))
    (gRet (gTup (gConsA (gB bTup (gConsA (gVar 2) gNilA)) (gConsA (gIx (gVar 1) (gNeg (gC (.int 2)))) (gConsA (gFn 2 f_number_read (gConsA (gIx (gVar 1) (gNeg (gC (.int 1)))) (gConsA (gC (.int (2000))) gNilA))) gNilA)))))))))
def f_read : List PyData → O PyData := fnG 4 g_read
theorem ok_read (T : Top K mg xc cls) : OkAt P w K mg base cls xc "read" ["text"] 1 3 f_read :=
  okAt_of T.d_read sc_read g_read [] fun f cdv A outer s H E F0 hr => ⟨_, (pss_cons (ps_if (pt_not (pt_truth (pe_callB call_isi (by rfl) T.n_isinstance bt_isinstance (pa_cons (pv 0) (pa_cons (pe_bltn (v := .ty "str") (by rfl) T.n_str bt_str rfl) pa_nil))) (by intro _; rfl))) (pss_one (ps_raiseO rfl (takes_of rfl rfl rfl rfl) T.e_BadText (by rfl))) pss_nil)
      (pss_cons (ps_set (i := 1) sc_read.nd rfl (by first | exact Or.inl rfl | exact Or.inr rfl) (pe_split (pv 0) pe_str))
      (pss_cons (ps_if (PW.pt (pw_or (pt_not (pt_chain op_le op_le pe_int (pe_callB call_len (by rfl) T.n_len bt_len (pa_cons (pv 1) pa_nil)) (pe_op op_addAll (pe_globI (by rfl) T.i_MOST_UNKNOWNS) pe_int))) (pw_or1 (pt_not (pt_truth (pe_callO (ok_is_word T) hr (by decide) (by rfl) (takes_of rfl rfl rfl rfl) (pa_cons (pe_ix ix_seq (pv 1) (pe_un un_neg pe_int) (fun _ _ => rfl)) pa_nil)) (by intro _; rfl)))))) (pss_one (ps_raiseO rfl (takes_of rfl rfl rfl rfl) T.e_BadText (by rfl))) pss_nil)
      (pss_cons (ps_setLc (i := 2) (own := [("part", 3)]) rfl sc_read.nd rfl rfl (sw_true rfl rfl rfl (by decide +kernel)) (pi_any (pe_slice sl_all (pv 1) po_none (po_some (pe_un un_neg pe_int)))) (blkOk_by (N := ["text", "parts", "numbers", "part"]) (sc := defScope st_read) (own := [("part", 3)]) (by decide +kernel)) (fun _ _ _ _ _ => (pg_name (i := 3) sc_read.nd rfl (by first | exact Or.inl rfl | exact Or.inr rfl))) (fun _ _ _ _ _ => pts_nil) (fun _ _ _ _ _ => (pe_callO (ok_number_read T) hr (by decide) (by rfl) takes0 (pa_cons (pv 3) (pa_cons (pe_globI (by rfl) T.i_GREATEST_NUMBER) pa_nil)))))
      (pss_one (ps_ret (pe_tup (pa_cons (pe_callTy call_tuple_of (by rfl) T.n_tuple bt_tuple (pa_cons (pv 2) pa_nil)) (pa_cons (pe_ix ix_seq (pv 1) (pe_un un_neg pe_int) (fun _ _ => rfl)) (pa_cons (pe_callO (ok_number_read T) hr (by decide) (by rfl) (takes_of rfl rfl rfl rfl) (pa_cons (pe_ix ix_seq (pv 1) (pe_un un_neg pe_int) (fun _ _ => rfl)) (pa_cons (pe_globI (by rfl) T.i_GREATEST_BOUND) pa_nil))) pa_nil)))))))))),
    (fs_seq (own1 := []) (fs_if (own' := []) (ft_not (ft_truth (fe_isi kit_str (fe_var rfl)))) (fs_raise (n := 6) rfl rfl) fs_next)
      (fs_seq (own1 := []) (fs_set ((fo_split (fe_var rfl) (fe_str " ")).fe gSplit_list) rfl)
      (fs_seq (own1 := []) (fs_if (own' := []) (ft_or (ft_not (ft_test (fe_chain opf_le opf_le (fe_int 3) (fe_callB cf_len (fa_cons (fe_var rfl) fa_nil)) (fe_op opf_add (fe_int (3)) (fe_int 2))))) (ft_not (ft_truth (fe_call rfl (fa_cons (fe_op opf_ix (fe_var rfl) (fe_un unf_neg (fe_int 2))) fa_nil))))) (fs_raise (n := 6) rfl rfl) fs_next)
      (fs_seq (own1 := []) (fs_set (fe_comp (vs := [3]) (fi_any (fe_slice (fe_var rfl) fp_none (fp_some (fe_un unf_neg (fe_int 2))))) (fc_name rfl rfl) aName_ex ft_yes (fe_call rfl (fa_cons (fe_var rfl) (fa_cons (fe_int (50)) fa_nil)))) rfl)
      (fs_ret (fe_tup (fa_cons (fe_callB cf_tup (fa_cons (fe_var rfl) fa_nil)) (fa_cons (fe_op opf_ix (fe_var rfl) (fe_un unf_neg (fe_int 2))) (fa_cons (fe_call rfl (fa_cons (fe_op opf_ix (fe_var rfl) (fe_un unf_neg (fe_int 1))) (fa_cons (fe_int (2000)) fa_nil))) fa_nil)))))))))⟩
/-! ### _law_cell_at -/
abbrev st__law_cell_at : Stmt := topS 19
theorem sc__law_cell_at : FnScope ["_law_script", "_law_k", "_law_cell"] ["_law_script", "_law_k"] (defScope st__law_cell_at) := ⟨rfl, rfl, rfl, by decide +kernel, rfl, by decide +kernel, by decide +kernel⟩
def g__law_cell_at : Rho → R :=
    (gSeq (gSet 2 (gC (.int 0)))
    (gSeq (gIfS (gBl (gGt (gB bLen (gConsA (gVar 0) gNilA)) (gC (.int 0)))) (gSet 2 (gIx (gVar 0) (gMod (gVar 1) (gB bLen (gConsA (gVar 0) gNilA))))) gNext)
    (gRet (gMod (gMul (gAdd (gVar 2) (gMul (gC (.int 17)) (gVar 1))) (gC (.int 48271))) (gC (.int 1000003))))))
def f__law_cell_at : List PyData → O PyData := fnG 3 g__law_cell_at
theorem ok__law_cell_at (T : Top K mg xc cls) : OkAt P w K mg base cls xc "_law_cell_at" ["_law_script", "_law_k"] 2 1 f__law_cell_at :=
  okAt_of T.d__law_cell_at sc__law_cell_at g__law_cell_at [] fun f cdv A outer s H E F0 hr => ⟨_, (pss_cons (ps_set (i := 2) sc__law_cell_at.nd rfl (by first | exact Or.inl rfl | exact Or.inr rfl) pe_int)
      (pss_cons (ps_if (pt_cmpR op_gt (pe_callB call_len (by rfl) T.n_len bt_len (pa_cons (pv 0) pa_nil)) pe_int (nomark _)) (pss_one (ps_set (i := 2) sc__law_cell_at.nd rfl (by first | exact Or.inl rfl | exact Or.inr rfl) (pe_ix ix_seq (pv 0) (pe_op op_mod (pv 1) (pe_callB call_len (by rfl) T.n_len bt_len (pa_cons (pv 0) pa_nil))) (fun _ _ => rfl)))) pss_nil)
      (pss_one (ps_ret (pe_op op_mod (pe_op op_mulAll (pe_op op_addAll (pv 2) (pe_op op_mulAll pe_int (pv 1))) pe_int) pe_int))))),
    (fs_seq (own1 := []) (fs_set (fe_int 0) rfl)
      (fs_seq (own1 := []) (fs_if (own' := []) (ft_test (fe_op opf_gt (fe_callB cf_len (fa_cons (fe_var rfl) fa_nil)) (fe_int 0))) (fs_set (fe_op opf_ix (fe_var rfl) (fe_op opf_mod (fe_var rfl) (fe_callB cf_len (fa_cons (fe_var rfl) fa_nil)))) rfl) fs_next)
      (fs_ret (fe_op opf_mod (fe_op opf_mul (fe_op opf_add (fe_var rfl) (fe_op opf_mul (fe_int 17) (fe_var rfl))) (fe_int 48271)) (fe_int 1000003)))))⟩
/-! ### _law_whole -/
abbrev st__law_whole : Stmt := topS 20
theorem sc__law_whole : FnScope ["_law_found"] ["_law_found"] (defScope st__law_whole) := ⟨rfl, rfl, rfl, by decide +kernel, rfl, by decide +kernel, by decide +kernel⟩
def g__law_whole : Rho → R :=
    (gRet (gAndV (gIsi "int" (gVar 0)) (gNotV (gIsi "bool" (gVar 0)))))
def f__law_whole : List PyData → O PyData := fnG 1 g__law_whole
theorem ok__law_whole (T : Top K mg xc cls) : OkAt P w K mg base cls xc "_law_whole" ["_law_found"] 1 1 f__law_whole :=
  okAt_of T.d__law_whole sc__law_whole g__law_whole [] fun f cdv A outer s H E F0 hr => ⟨_, (pss_one (ps_ret (pe_and (pe_callB call_isi (by rfl) T.n_isinstance bt_isinstance (pa_cons (pv 0) (pa_cons (pe_bltn (v := .ty "int") (by rfl) T.n_int bt_int rfl) pa_nil))) (pe_one (pe_not (pe_callB call_isi (by rfl) T.n_isinstance bt_isinstance (pa_cons (pv 0) (pa_cons (pe_bltn (v := .ty "bool") (by rfl) T.n_bool bt_bool rfl) pa_nil)))))))),
    (fs_ret (fe_and (fe_isi kit_int (fe_var rfl)) (fe_not (fe_isi kit_bool (fe_var rfl)))))⟩
/-! ### _law_number_in -/
abbrev st__law_number_in : Stmt := topS 21
theorem sc__law_number_in : FnScope ["_law_word", "_law_most", "_law_figures", "_law_sign", "_law_found"] ["_law_word", "_law_most"] (defScope st__law_number_in) := ⟨rfl, rfl, rfl, by decide +kernel, rfl, by decide +kernel, by decide +kernel⟩
def g__law_number_in : Rho → R :=
    (gSeq (gSet 2 (gVar 0))
    (gSeq (gIfS (gBl (gEq (gSl (gVar 0) gNoP (gPart (gC (.int 1)))) (gC (.str "-")))) (gSet 2 (gSl (gVar 0) (gPart (gC (.int 1))) gNoP)) gNext)
    (gSeq (gIfS (gOrT (gBl (gEq (gVar 2) (gC (.str "")))) (gBl (gGt (gB bLen (gConsA (gVar 2) gNilA)) (gC (.int 6))))) (gRet (gC .none)) gNext)
    (gSeq (gFor (aName 3) (gItA (gVar 2)) (gIfS (gBl (gNotIn (gVar 3) (gC (.str "0123456789")))) (gRet (gC .none)) gNext))
    (gSeq (gIfS (gAndT (gBl (gEq (gIx (gVar 2) (gC (.int 0))) (gC (.str "0")))) (gOrT (gBl (gGt (gB bLen (gConsA (gVar 2) gNilA)) (gC (.int 1)))) (gBl (gNe (gVar 2) (gVar 0))))) (gRet (gC .none)) gNext)
    (gSeq (gSet 4 (gB bInt (gConsA (gVar 2) gNilA)))
    (gSeq (gIfS (gBl (gGt (gVar 4) (gVar 1))) (gRet (gC .none)) gNext)
    (gSeq (gIfS (gBl (gNe (gVar 2) (gVar 0))) (gSet 4 (gSub' (gC (.int 0)) (gVar 4))) gNext)
    (gRet (gVar 4))))))))))
def f__law_number_in : List PyData → O PyData := fnG 5 g__law_number_in
theorem ok__law_number_in (T : Top K mg xc cls) : OkAt P w K mg base cls xc "_law_number_in" ["_law_word", "_law_most"] 2 1 f__law_number_in :=
  okAt_of T.d__law_number_in sc__law_number_in g__law_number_in [] fun f cdv A outer s H E F0 hr => ⟨_, (pss_cons (ps_set (i := 2) sc__law_number_in.nd rfl (by first | exact Or.inl rfl | exact Or.inr rfl) (pv 0))
      (pss_cons (ps_if (pt_cmpR (op_eqAll hr.units) (pe_slice sl_all (pv 0) po_none (po_some pe_int)) pe_str (nomark _)) (pss_one (ps_set (i := 2) sc__law_number_in.nd rfl (by first | exact Or.inl rfl | exact Or.inr rfl) (pe_slice sl_all (pv 0) (po_some pe_int) po_none))) pss_nil)
      (pss_cons (ps_if (PW.pt (pw_or (pt_cmpR (op_eqAll hr.units) (pv 2) pe_str (nomark _)) (pw_or1 (pt_cmpR op_gt (pe_callB call_len (by rfl) T.n_len bt_len (pa_cons (pv 2) pa_nil)) pe_int (nomark _))))) (pss_one (ps_ret pe_non)) pss_nil)
      (pss_cons (ps_for (passes_of rfl) rfl (pi_any (pv 2)) (pg_name (i := 3) sc__law_number_in.nd rfl (by first | exact Or.inl rfl | exact Or.inr rfl)) (pss_one (ps_if (pt_cmpR op_notInAll (pv 3) pe_str (by rfl)) (pss_one (ps_ret pe_non)) pss_nil)))
      (pss_cons (ps_if (PW.pt (pw_and (pt_cmpR (op_eqAll hr.units) (pe_ix ix_seq (pv 2) pe_int (fun _ _ => rfl)) pe_str (nomark _)) (pw_and1 (PW.pt (pw_or (pt_cmpR op_gt (pe_callB call_len (by rfl) T.n_len bt_len (pa_cons (pv 2) pa_nil)) pe_int (nomark _)) (pw_or1 (pt_cmpR (op_neAll hr.units) (pv 2) (pv 0) (nomark _)))))))) (pss_one (ps_ret pe_non)) pss_nil)
      (pss_cons (ps_set (i := 4) sc__law_number_in.nd rfl (by first | exact Or.inl rfl | exact Or.inr rfl) (pe_callTy cr_intAll (by rfl) T.n_int bt_int (pa_cons (pv 2) pa_nil)))
      (pss_cons (ps_if (pt_cmpR op_gt (pv 4) (pv 1) (nomark _)) (pss_one (ps_ret pe_non)) pss_nil)
      (pss_cons (ps_if (pt_cmpR (op_neAll hr.units) (pv 2) (pv 0) (nomark _)) (pss_one (ps_set (i := 4) sc__law_number_in.nd rfl (by first | exact Or.inl rfl | exact Or.inr rfl) (pe_op op_sub pe_int (pv 4)))) pss_nil)
      (pss_one (ps_ret (pv 4))))))))))),
    (fs_seq (own1 := []) (fs_set (fe_var rfl) rfl)
      (fs_seq (own1 := []) (fs_if (own' := []) (ft_test (fe_op opf_eq (fe_slice (fe_var rfl) fp_none (fp_some (fe_int 1))) (fe_str "-"))) (fs_set (fe_slice (fe_var rfl) (fp_some (fe_int 1)) fp_none) rfl) fs_next)
      (fs_seq (own1 := []) (fs_if (own' := []) (ft_or (ft_test (fe_op opf_eq (fe_var rfl) (fe_str ""))) (ft_test (fe_op opf_gt (fe_callB cf_len (fa_cons (fe_var rfl) fa_nil)) (fe_int 6)))) (fs_ret fe_none) fs_next)
      (fs_seq (own1 := []) (fs_for (fi_any (fe_var rfl)) (fg_name rfl) aName_ex (fs_if (own' := []) (ft_test (fe_op opf_in (fe_var rfl) (fe_str "0123456789"))) (fs_ret fe_none) fs_next))
      (fs_seq (own1 := []) (fs_if (own' := []) (ft_and (ft_test (fe_op opf_eq (fe_op opf_ix (fe_var rfl) (fe_int 0)) (fe_str "0"))) (ft_or (ft_test (fe_op opf_gt (fe_callB cf_len (fa_cons (fe_var rfl) fa_nil)) (fe_int 1))) (ft_test (fe_op opf_ne (fe_var rfl) (fe_var rfl))))) (fs_ret fe_none) fs_next)
      (fs_seq (own1 := []) (fs_set (fe_callB cf_int (fa_cons (fe_var rfl) fa_nil)) rfl)
      (fs_seq (own1 := []) (fs_if (own' := []) (ft_test (fe_op opf_gt (fe_var rfl) (fe_var rfl))) (fs_ret fe_none) fs_next)
      (fs_seq (own1 := []) (fs_if (own' := []) (ft_test (fe_op opf_ne (fe_var rfl) (fe_var rfl))) (fs_set (fe_op opf_sub (fe_int 0) (fe_var rfl)) rfl) fs_next)
      (fs_ret (fe_var rfl))))))))))⟩
/-! ### _law_read -/
abbrev st__law_read : Stmt := topS 22
theorem sc__law_read : FnScope ["_law_text_here", "_law_words", "_law_numbers", "_law_word", "_law_bound"] ["_law_text_here"] (defScope st__law_read) := ⟨rfl, rfl, rfl, by decide +kernel, rfl, by decide +kernel, by decide +kernel⟩
def g__law_read : Rho → R :=
    (gSeq (gSet 1 (gStr dSplit (gVar 0) (gC (.str " "))))
    (gSeq (gIfS (gOrT (gNotT (gBl (gChain dLe dLe (gC (.int 3)) (gB bLen (gConsA (gVar 1) gNilA)) (gC (.int 5))))) (gBl (gNotIn (gIx (gVar 1) (gNeg (gC (.int 2)))) (gLst (gConsA (gC (.str "most")) (gConsA (gC (.str "least")) gNilA)))))) (gRet (gC .none)) gNext)
    (gSeq (gSet 2 (gComp [3] (aName 3) gYes (gFn 2 f__law_number_in (gConsA (gVar 3) (gConsA (gC (.int 50)) gNilA))) (gItA (gSl (gVar 1) gNoP (gPart (gNeg (gC (.int 2))))))))
    (gSeq (gSet 4 (gFn 2 f__law_number_in (gConsA (gIx (gVar 1) (gNeg (gC (.int 1)))) (gConsA (gC (.int 2000)) gNilA))))
    (gSeq (gIfS (gOrT (gBl (gIn (gC .none) (gVar 2))) (gBl (gIsN (gVar 4) (gC .none)))) (gRet (gC .none)) gNext)
    (gRet (gTup (gConsA (gB bTup (gConsA (gVar 2) gNilA)) (gConsA (gIx (gVar 1) (gNeg (gC (.int 2)))) (gConsA (gVar 4) gNilA))))))))))
def f__law_read : List PyData → O PyData := fnG 5 g__law_read
theorem ok__law_read (T : Top K mg xc cls) : OkAt P w K mg base cls xc "_law_read" ["_law_text_here"] 1 2 f__law_read :=
  okAt_of T.d__law_read sc__law_read g__law_read [] fun f cdv A outer s H E F0 hr => ⟨_, (pss_cons (ps_set (i := 1) sc__law_read.nd rfl (by first | exact Or.inl rfl | exact Or.inr rfl) (pe_split (pv 0) pe_str))
      (pss_cons (ps_if (PW.pt (pw_or (pt_not (pt_chain op_le op_le pe_int (pe_callB call_len (by rfl) T.n_len bt_len (pa_cons (pv 1) pa_nil)) pe_int)) (pw_or1 (pt_cmpR op_notInAll (pe_ix ix_seq (pv 1) (pe_un un_neg pe_int) (fun _ _ => rfl)) (pe_lst (pa_cons pe_str (pa_cons pe_str pa_nil))) (by rfl))))) (pss_one (ps_ret pe_non)) pss_nil)
      (pss_cons (ps_setLc (i := 2) (own := [("_law_word", 3)]) rfl sc__law_read.nd rfl rfl (sw_true rfl rfl rfl (by decide +kernel)) (pi_any (pe_slice sl_all (pv 1) po_none (po_some (pe_un un_neg pe_int)))) (blkOk_by (N := ["_law_text_here", "_law_words", "_law_numbers", "_law_word", "_law_bound"]) (sc := defScope st__law_read) (own := [("_law_word", 3)]) (by decide +kernel)) (fun _ _ _ _ _ => (pg_name (i := 3) sc__law_read.nd rfl (by first | exact Or.inl rfl | exact Or.inr rfl))) (fun _ _ _ _ _ => pts_nil) (fun _ _ _ _ _ => (pe_callO (ok__law_number_in T) hr (by decide) (by rfl) takes0 (pa_cons (pv 3) (pa_cons pe_int pa_nil)))))
      (pss_cons (ps_set (i := 4) sc__law_read.nd rfl (by first | exact Or.inl rfl | exact Or.inr rfl) (pe_callO (ok__law_number_in T) hr (by decide) (by rfl) (takes_of rfl rfl rfl rfl) (pa_cons (pe_ix ix_seq (pv 1) (pe_un un_neg pe_int) (fun _ _ => rfl)) (pa_cons pe_int pa_nil))))
      (pss_cons (ps_if (PW.pt (pw_or (pt_cmpR op_inAll pe_non (pv 2) (by rfl)) (pw_or1 (pt_cmpR op_isN (pv 4) pe_non (nomark _))))) (pss_one (ps_ret pe_non)) pss_nil)
      (pss_one (ps_ret (pe_tup (pa_cons (pe_callTy call_tuple_of (by rfl) T.n_tuple bt_tuple (pa_cons (pv 2) pa_nil)) (pa_cons (pe_ix ix_seq (pv 1) (pe_un un_neg pe_int) (fun _ _ => rfl)) (pa_cons (pv 4) pa_nil))))))))))),
    (fs_seq (own1 := []) (fs_set ((fo_split (fe_var rfl) (fe_str " ")).fe gSplit_list) rfl)
      (fs_seq (own1 := []) (fs_if (own' := []) (ft_or (ft_not (ft_test (fe_chain opf_le opf_le (fe_int 3) (fe_callB cf_len (fa_cons (fe_var rfl) fa_nil)) (fe_int 5)))) (ft_test (fe_op opf_in (fe_op opf_ix (fe_var rfl) (fe_un unf_neg (fe_int 2))) (fe_lst (fa_cons (fe_str "most") (fa_cons (fe_str "least") fa_nil)))))) (fs_ret fe_none) fs_next)
      (fs_seq (own1 := []) (fs_set (fe_comp (vs := [3]) (fi_any (fe_slice (fe_var rfl) fp_none (fp_some (fe_un unf_neg (fe_int 2))))) (fc_name rfl rfl) aName_ex ft_yes (fe_call rfl (fa_cons (fe_var rfl) (fa_cons (fe_int 50) fa_nil)))) rfl)
      (fs_seq (own1 := []) (fs_set (fe_call rfl (fa_cons (fe_op opf_ix (fe_var rfl) (fe_un unf_neg (fe_int 1))) (fa_cons (fe_int 2000) fa_nil))) rfl)
      (fs_seq (own1 := []) (fs_if (own' := []) (ft_or (ft_test (fe_op opf_in fe_none (fe_var rfl))) (ft_test (fe_op opf_isN (fe_var rfl) fe_none))) (fs_ret fe_none) fs_next)
      (fs_ret (fe_tup (fa_cons (fe_callB cf_tup (fa_cons (fe_var rfl) fa_nil)) (fa_cons (fe_op opf_ix (fe_var rfl) (fe_un unf_neg (fe_int 2))) (fa_cons (fe_var rfl) fa_nil))))))))))⟩
/-! ### _law_odd -/
abbrev st__law_odd : Stmt := topS 23
theorem sc__law_odd : FnScope ["_law_cell", "_law_some"] ["_law_cell"] (defScope st__law_odd) := ⟨rfl, rfl, rfl, by decide +kernel, rfl, by decide +kernel, by decide +kernel⟩
def g__law_odd : Rho → R :=
    (gSeq (gSet 1 (gLst (gConsA (gC (.str "")) (gConsA (gC (.str " ")) (gConsA (gC (.str "1 most")) (gConsA (gC (.str "most 3")) (gConsA (gC (.str "1 2 3 4 most 5")) (gConsA (gC (.str "1 more 2")) (gConsA (gC (.str "51 most 0")) (gConsA (gC (.str "-51 most 0")) (gConsA (gC (.str "1 most 2001")) gNilA)))))))))))
    (gSeq (gSet 1 (gAdd (gVar 1) (gLst (gConsA (gC (.str "1 least -2001")) (gConsA (gC (.str "-0 most 1")) (gConsA (gC (.str "01 most 1")) (gConsA (gC (.str "1 most -0")) (gConsA (gC (.str "1  most 2")) (gConsA (gC (.str " 1 most 2")) (gConsA (gC (.str "1 most 2 ")) gNilA))))))))))
    (gSeq (gSet 1 (gAdd (gVar 1) (gLst (gConsA (gC (.str "+1 most 2")) (gConsA (gC (.str "1 MOST 2")) (gConsA (gC (.str "1 most 2.0")) (gConsA (gC (.str "1\tmost 2")) (gConsA (gC (.str "1 most 2\n")) (gConsA (gC (.str "--1 most 2")) gNilA)))))))))
    (gSeq (gSet 1 (gAdd (gVar 1) (gLst (gConsA (gAdd (gMulS (gC (.str "9")) (gC (.int 4400))) (gC (.str " most 0"))) (gConsA (gAdd (gC (.str "1 least -")) (gMulS (gC (.str "8")) (gC (.int 4400)))) gNilA)))))
    (gRet (gIx (gVar 1) (gMod (gVar 0) (gC (.int 24)))))))))
def f__law_odd : List PyData → O PyData := fnG 2 g__law_odd
theorem ok__law_odd (T : Top K mg xc cls) : OkAt P w K mg base cls xc "_law_odd" ["_law_cell"] 1 1 f__law_odd :=
  okAt_of T.d__law_odd sc__law_odd g__law_odd [] fun f cdv A outer s H E F0 hr => ⟨_, (pss_cons (ps_set (i := 1) sc__law_odd.nd rfl (by first | exact Or.inl rfl | exact Or.inr rfl) (pe_lst (pa_cons pe_str (pa_cons pe_str (pa_cons pe_str (pa_cons pe_str (pa_cons pe_str (pa_cons pe_str (pa_cons pe_str (pa_cons pe_str (pa_cons pe_str pa_nil)))))))))))
      (pss_cons (ps_set (i := 1) sc__law_odd.nd rfl (by first | exact Or.inl rfl | exact Or.inr rfl) (pe_op op_addAll (pv 1) (pe_lst (pa_cons pe_str (pa_cons pe_str (pa_cons pe_str (pa_cons pe_str (pa_cons pe_str (pa_cons pe_str (pa_cons pe_str pa_nil))))))))))
      (pss_cons (ps_set (i := 1) sc__law_odd.nd rfl (by first | exact Or.inl rfl | exact Or.inr rfl) (pe_op op_addAll (pv 1) (pe_lst (pa_cons pe_str (pa_cons pe_str (pa_cons pe_str (pa_cons pe_str (pa_cons pe_str (pa_cons pe_str pa_nil)))))))))
      (pss_cons (ps_set (i := 1) sc__law_odd.nd rfl (by first | exact Or.inl rfl | exact Or.inr rfl) (pe_op op_addAll (pv 1) (pe_lst (pa_cons (pe_op op_addAll (pe_op op_mulS pe_str pe_int) pe_str) (pa_cons (pe_op op_addAll pe_str (pe_op op_mulS pe_str pe_int)) pa_nil)))))
      (pss_one (ps_ret (pe_ix ix_seq (pv 1) (pe_op op_mod (pv 0) pe_int) (fun _ _ => rfl)))))))),
    (fs_seq (own1 := []) (fs_set (fe_lst (fa_cons (fe_str "") (fa_cons (fe_str " ") (fa_cons (fe_str "1 most") (fa_cons (fe_str "most 3") (fa_cons (fe_str "1 2 3 4 most 5") (fa_cons (fe_str "1 more 2") (fa_cons (fe_str "51 most 0") (fa_cons (fe_str "-51 most 0") (fa_cons (fe_str "1 most 2001") fa_nil)))))))))) rfl)
      (fs_seq (own1 := []) (fs_set (fe_op opf_add (fe_var rfl) (fe_lst (fa_cons (fe_str "1 least -2001") (fa_cons (fe_str "-0 most 1") (fa_cons (fe_str "01 most 1") (fa_cons (fe_str "1 most -0") (fa_cons (fe_str "1  most 2") (fa_cons (fe_str " 1 most 2") (fa_cons (fe_str "1 most 2 ") fa_nil))))))))) rfl)
      (fs_seq (own1 := []) (fs_set (fe_op opf_add (fe_var rfl) (fe_lst (fa_cons (fe_str "+1 most 2") (fa_cons (fe_str "1 MOST 2") (fa_cons (fe_str "1 most 2.0") (fa_cons (fe_str "1\tmost 2") (fa_cons (fe_str "1 most 2\n") (fa_cons (fe_str "--1 most 2") fa_nil)))))))) rfl)
      (fs_seq (own1 := []) (fs_set (fe_op opf_add (fe_var rfl) (fe_lst (fa_cons (fe_op opf_add (fe_op opf_mulS (fe_str "9") (fe_int 4400)) (fe_str " most 0")) (fa_cons (fe_op opf_add (fe_str "1 least -") (fe_op opf_mulS (fe_str "8") (fe_int 4400))) fa_nil)))) rfl)
      (fs_ret (fe_op opf_ix (fe_var rfl) (fe_op opf_mod (fe_var rfl) (fe_int 24))))))))⟩
/-! ### _law_text -/
abbrev st__law_text : Stmt := topS 24
theorem sc__law_text : FnScope ["_law_text_here", "_law_kind", "_law_cell", "_law_place", "_law_words", "_law_one", "_law_other", "_law_kept"] ["_law_text_here", "_law_kind", "_law_cell"] (defScope st__law_text) := ⟨rfl, rfl, rfl, by decide +kernel, rfl, by decide +kernel, by decide +kernel⟩
def g__law_text : Rho → R :=
    (gSeq (gSet 3 (gMod (gVar 2) (gAdd (gB bLen (gConsA (gVar 0) gNilA)) (gC (.int 1)))))
    (gSeq (gIfS (gBl (gEq (gVar 1) (gC (.int 1)))) (gRet (gAdd (gAdd (gSl (gVar 0) gNoP (gPart (gVar 3))) (gIx (gC (.str "0123456789- +.\n\tem")) (gMod (gFdiv (gVar 2) (gC (.int 97))) (gC (.int 18))))) (gSl (gVar 0) (gPart (gVar 3)) gNoP))) gNext)
    (gSeq (gIfS (gBl (gEq (gVar 1) (gC (.int 2)))) (gSeq (gSet 3 (gMod (gVar 2) (gB bLen (gConsA (gVar 0) gNilA))))
    (gRet (gAdd (gSl (gVar 0) gNoP (gPart (gVar 3))) (gSl (gVar 0) (gPart (gAdd (gVar 3) (gC (.int 1)))) gNoP)))) gNext)
    (gSeq (gIfS (gBl (gEq (gVar 1) (gC (.int 3)))) (gSeq (gSet 4 (gStr dSplit (gVar 0) (gC (.str " "))))
    (gSeq (gSet 5 (gMod (gVar 2) (gB bLen (gConsA (gVar 4) gNilA))))
    (gSeq (gSet 6 (gMod (gFdiv (gVar 2) (gC (.int 97))) (gB bLen (gConsA (gVar 4) gNilA))))
    (gSeq (gSet 7 (gIx (gVar 4) (gVar 5)))
    (gSeq (gSetIx 4 (gVar 5) (gIx (gVar 4) (gVar 6)))
    (gSeq (gSetIx 4 (gVar 6) (gVar 7))
    (gRet (gStr dJoin (gC (.str " ")) (gVar 4))))))))) gNext)
    (gSeq (gIfS (gBl (gEq (gVar 1) (gC (.int 4)))) (gRet (gFn 1 f__law_odd (gConsA (gVar 2) gNilA))) gNext)
    (gRet (gVar 0)))))))
def f__law_text : List PyData → O PyData := fnG 8 g__law_text
theorem ok__law_text (T : Top K mg xc cls) : OkAt P w K mg base cls xc "_law_text" ["_law_text_here", "_law_kind", "_law_cell"] 3 2 f__law_text :=
  okAt_of T.d__law_text sc__law_text g__law_text [] fun f cdv A outer s H E F0 hr => ⟨_, (pss_cons (ps_set (i := 3) sc__law_text.nd rfl (by first | exact Or.inl rfl | exact Or.inr rfl) (pe_op op_mod (pv 2) (pe_op op_addAll (pe_callB call_len (by rfl) T.n_len bt_len (pa_cons (pv 0) pa_nil)) pe_int)))
      (pss_cons (ps_if (pt_cmpR (op_eqAll hr.units) (pv 1) pe_int (nomark _)) (pss_one (ps_ret (pe_op op_addAll (pe_op op_addAll (pe_slice sl_all (pv 0) po_none (po_some (pv 3))) (pe_ix ix_seq pe_str (pe_op op_mod (pe_op op_fdivW (pv 2) pe_int) pe_int) (fun _ _ => rfl))) (pe_slice sl_all (pv 0) (po_some (pv 3)) po_none)))) pss_nil)
      (pss_cons (ps_if (pt_cmpR (op_eqAll hr.units) (pv 1) pe_int (nomark _)) (pss_cons (ps_set (i := 3) sc__law_text.nd rfl (by first | exact Or.inl rfl | exact Or.inr rfl) (pe_op op_mod (pv 2) (pe_callB call_len (by rfl) T.n_len bt_len (pa_cons (pv 0) pa_nil))))
      (pss_one (ps_ret (pe_op op_addAll (pe_slice sl_all (pv 0) po_none (po_some (pv 3))) (pe_slice sl_all (pv 0) (po_some (pe_op op_addAll (pv 3) pe_int)) po_none))))) pss_nil)
      (pss_cons (ps_if (pt_cmpR (op_eqAll hr.units) (pv 1) pe_int (nomark _)) (pss_cons (ps_set (i := 4) sc__law_text.nd rfl (by first | exact Or.inl rfl | exact Or.inr rfl) (pe_split (pv 0) pe_str))
      (pss_cons (ps_set (i := 5) sc__law_text.nd rfl (by first | exact Or.inl rfl | exact Or.inr rfl) (pe_op op_mod (pv 2) (pe_callB call_len (by rfl) T.n_len bt_len (pa_cons (pv 4) pa_nil))))
      (pss_cons (ps_set (i := 6) sc__law_text.nd rfl (by first | exact Or.inl rfl | exact Or.inr rfl) (pe_op op_mod (pe_op op_fdivW (pv 2) pe_int) (pe_callB call_len (by rfl) T.n_len bt_len (pa_cons (pv 4) pa_nil))))
      (pss_cons (ps_set (i := 7) sc__law_text.nd rfl (by first | exact Or.inl rfl | exact Or.inr rfl) (pe_ix ix_seq (pv 4) (pv 5) (fun _ _ => rfl)))
      (pss_cons (ps_asg (pe_ix ix_seq (pv 4) (pv 6) (fun _ _ => rfl)) (pg_sub (pv 4) (pv 5) set_list))
      (pss_cons (ps_asg (pv 7) (pg_sub (pv 4) (pv 6) set_list))
      (pss_one (ps_ret (pe_join pe_str (pv 4)))))))))) pss_nil)
      (pss_cons (ps_if (pt_cmpR (op_eqAll hr.units) (pv 1) pe_int (nomark _)) (pss_one (ps_ret (pe_callO (ok__law_odd T) hr (by decide) (by rfl) (takes_of rfl rfl rfl rfl) (pa_cons (pv 2) pa_nil)))) pss_nil)
      (pss_one (ps_ret (pv 0)))))))),
    (fs_seq (own1 := []) (fs_set (fe_op opf_mod (fe_var rfl) (fe_op opf_add (fe_callB cf_len (fa_cons (fe_var rfl) fa_nil)) (fe_int 1))) rfl)
      (fs_seq (own1 := []) (fs_if (own' := []) (ft_test (fe_op opf_eq (fe_var rfl) (fe_int 1))) (fs_ret (fe_op opf_add (fe_op opf_add (fe_slice (fe_var rfl) fp_none (fp_some (fe_var rfl))) (fe_op opf_ix (fe_str "0123456789- +.\n\tem") (fe_op opf_mod (fe_op opf_fdiv (fe_var rfl) (fe_int 97)) (fe_int 18)))) (fe_slice (fe_var rfl) (fp_some (fe_var rfl)) fp_none))) fs_next)
      (fs_seq (own1 := []) (fs_if (own' := []) (ft_test (fe_op opf_eq (fe_var rfl) (fe_int 2))) (fs_seq (own1 := []) (fs_set (fe_op opf_mod (fe_var rfl) (fe_callB cf_len (fa_cons (fe_var rfl) fa_nil))) rfl)
      (fs_ret (fe_op opf_add (fe_slice (fe_var rfl) fp_none (fp_some (fe_var rfl))) (fe_slice (fe_var rfl) (fp_some (fe_op opf_add (fe_var rfl) (fe_int 1))) fp_none)))) fs_next)
      (fs_seq (own1 := []) (fs_if (own' := []) (ft_test (fe_op opf_eq (fe_var rfl) (fe_int 3))) (fs_seq (own1 := [4]) (fs_setO (own' := [4]) (fo_split (fe_var rfl) (fe_str " ")) gSplit_list rfl)
      (fs_seq (own1 := [4]) (fs_set (fe_op opf_mod (fe_var rfl) (fe_callB cf_len (fa_cons fe_varO fa_nil))) rfl)
      (fs_seq (own1 := [4]) (fs_set (fe_op opf_mod (fe_op opf_fdiv (fe_var rfl) (fe_int 97)) (fe_callB cf_len (fa_cons fe_varO fa_nil))) rfl)
      (fs_seq (own1 := [4]) (fs_set (fe_op opf_ix fe_varO (fe_var rfl)) rfl)
      (fs_seq (own1 := [4]) (fs_setIx (fe_op opf_ix fe_varO (fe_var rfl)) (fe_var rfl) rfl)
      (fs_seq (own1 := [4]) (fs_setIx (fe_var rfl) (fe_var rfl) rfl)
      (fs_ret (fe_join (fe_str " ") (fe_var rfl))))))))) fs_next)
      (fs_seq (own1 := []) (fs_if (own' := []) (ft_test (fe_op opf_eq (fe_var rfl) (fe_int 4))) (fs_ret (fe_call rfl (fa_cons (fe_var rfl) fa_nil))) fs_next)
      (fs_ret (fe_var rfl)))))))⟩
end
end K02

set_option Elab.async false
set_option linter.all false
set_option maxRecDepth 100000
namespace K02
open PySem PySem.Spec L2 Fn SX
theorem s_e : ("" : Str) = S [] := by decide +kernel
theorem s_m : ("-" : Str) = S [45] := by decide +kernel
theorem s_0 : ("0" : Str) = S [48] := by decide +kernel
theorem s_m0 : ("-0" : Str) = S [45, 48] := by decide +kernel
def digL : List Nat := [48, 49, 50, 51, 52, 53, 54, 55, 56, 57]
theorem s_d : ("0123456789" : Str) = S digL := by decide +kernel
theorem s_b : (" " : Str) = S [32] := by decide +kernel
theorem dEq_S (a b : List Nat) : dEq (.str (S a)) (.str (S b)) = .ok (.bool (decide (a = b))) := by
  have h : PyData.eqv (.str (S a)) (.str (S b)) = (S a == S b) := rfl
  unfold dEq
  rw [h, S_beq_eq]
  rfl
theorem dNe_S (a b : List Nat) : dNe (.str (S a)) (.str (S b)) = .ok (.bool (!decide (a = b))) := by
  have h : PyData.eqv (.str (S a)) (.str (S b)) = (S a == S b) := rfl
  unfold dNe
  rw [h, S_beq_eq]
  rfl
def dig (c : Nat) : Bool := decide (48 ≤ c) && decide (c ≤ 57)
theorem dig_mem (c : Nat) : decide (c ∈ digL) = dig c := by
  unfold digL dig
  by_cases h1 : 48 ≤ c
  · by_cases h2 : c ≤ 57
    · have : c = 48 ∨ c = 49 ∨ c = 50 ∨ c = 51 ∨ c = 52 ∨ c = 53 ∨ c = 54 ∨ c = 55 ∨ c = 56 ∨ c = 57 := by omega
      rcases this with rfl | rfl | rfl | rfl | rfl | rfl | rfl | rfl | rfl | rfl <;> rfl
    · rw [decide_eq_false h2, Bool.and_false]
      refine decide_eq_false fun z => ?_
      simp at z
      omega
  · rw [decide_eq_false h1, Bool.false_and]
    refine decide_eq_false fun z => ?_
    simp at z
    omega
theorem dIn_S (c : Nat) : dIn false (.str (S [c])) (.str (S digL)) = .ok (.bool (dig c)) := by
  show (dInB _ _).bind _ = _
  have : dInB (.str (S [c])) (.str (S digL)) = .ok (dig c) := by
    show O.ok _ = _
    rw [in_one, dig_mem]
  rw [this]
  rfl
theorem dNotIn_S (c : Nat) : dIn true (.str (S [c])) (.str (S digL)) = .ok (.bool (!dig c)) := by
  show (dInB _ _).bind _ = _
  have : dInB (.str (S [c])) (.str (S digL)) = .ok (dig c) := by
    show O.ok _ = _
    rw [in_one, dig_mem]
  rw [this]
  rfl
theorem items_S (l : List Nat) : itemsA (.str (S l)) = .ok (l.map fun c => .str (S [c])) := rfl
theorem lim5 {n : Nat} (h : n ≤ 100000) : n ≤ lim := by unfold lim; omega
theorem dIx_S {c : Nat} {l : List Nat} (h : (c :: l).length ≤ 100000) : dIx (.str (S (c :: l))) (.int 0) = .ok (.str (S [c])) := by
  show (if (S (c :: l)).length ≤ lim then _ else _) = _
  rw [if_pos (by rw [S_len]; exact lim5 h)]
  have a : atI (S (c :: l)).cps.toList 0 = some c := atI_nat (j := 0) rfl
  rw [a]
def figOk (l : List Nat) : Bool := !decide (l = []) && l.all dig && (decide (l = [48]) || !decide (l.head? = some 48))
theorem are_figures_ok {l : List Nat} (hl : l.length ≤ 1000) : f_are_figures [.str (S l)] = .ok (.bool (figOk l)) := by
  have e : rho0 2 [PyData.str (S l)] = [some (.str (S l)), none] := rfl
  unfold f_are_figures fnG
  rw [e]
  unfold g_are_figures
  have hc := comp_of (vs := [1]) (f := aName 1) (t := gYes) (e := (gIn (gVar 1) (gC (.str "0123456789")))) (gi := (gItA (gVar 0))) (ρ := [some (.str (S l)), none]) l (fun c => .str (S [c])) (fun c => .bool (dig c)) (by simp -implicitDefEqProofs [items_S]) (lim5 (by omega)) (fun c hc => ⟨_, rfl, rfl, by
    rw [s_d]
    simp -implicitDefEqProofs [dIn_S]⟩)
  have hb := bAll_map dig l
  rw [s_e, s_0, s_d] at *
  cases l with
  | nil => simp -implicitDefEqProofs [dEq_S, figOk, outR]
  | cons c l =>
    have hx := dIx_S (c := c) (l := l) (by omega)
    have t1 : figOk (c :: l) = ((c :: l).all dig && (decide (c :: l = [48]) || !decide (c = 48))) := by simp [figOk]
    rw [t1]
    generalize hm : (c :: l).map (fun c => PyData.bool (dig c)) = bs at hc hb
    generalize (c :: l).all dig = k at hb ⊢
    clear hm t1
    cases k with
    | false => simp -implicitDefEqProofs [dEq_S, outR, hc, hb]
    | true =>
      by_cases h3 : c = 48
      · subst h3
        by_cases h2 : l = []
        · subst h2
          simp -implicitDefEqProofs [dEq_S, dNe_S, outR, hc, hb, hx]
        · simp -implicitDefEqProofs [dEq_S, dNe_S, outR, hc, hb, hx, h2]
      · simp -implicitDefEqProofs [dEq_S, dNe_S, outR, hc, hb, hx, h3]
end K02

set_option Elab.async false
set_option linter.all false
set_option maxRecDepth 100000
namespace K02
open PySem PySem.Spec L2 Fn SX
theorem cut_from1 (l : List Nat) : cutS (S l) (some 1) none = S (l.drop 1) := by
  unfold cutS
  rw [S_len]
  have h1 : HT.sIx l.length 0 (some 1) = min 1 l.length := HT.sIx_nat _ _ 1
  have h2 : HT.sIx l.length l.length none = l.length := HT.sIx_none _ _
  rw [h1, h2]
  show S ((l.drop (min 1 l.length)).take (l.length - min 1 l.length)) = _
  congr 1
  cases l with
  | nil => rfl
  | cons c l =>
    have : min 1 (c :: l).length = 1 := by rw [List.length_cons]; omega
    rw [this]
    exact List.take_of_length_le (by simp)
theorem cut_to1 (l : List Nat) : cutS (S l) none (some 1) = S (l.take 1) := by
  unfold cutS
  rw [S_len]
  have h1 : HT.sIx l.length l.length (some 1) = min 1 l.length := HT.sIx_nat _ _ 1
  have h2 : HT.sIx l.length 0 none = 0 := HT.sIx_none _ _
  rw [h1, h2]
  show S ((l.drop 0).take (min 1 l.length - 0)) = _
  congr 1
  cases l with
  | nil => rfl
  | cons c l =>
    have : min 1 (c :: l).length = 1 := by rw [List.length_cons]; omega
    rw [this]
    rfl
def neg (l : List Nat) : Bool := decide (l.take 1 = [45])
theorem starts_m (l : List Nat) : Txt.startswith (S l) (S [45]) = neg l := by
  unfold Txt.startswith Builtin.Str.subAt neg
  cases l with
  | nil => rfl
  | cons c l =>
    have e : (S (c :: l)).cps.extract 0 (0 + (S [45]).length) = (S [c]).cps := by
      have : (S [45]).length = 1 := rfl
      rw [this]
      apply Array.toList_inj.mp
      simp
    rw [e]
    have h : ((S [c]).cps == (S [45]).cps) = decide ([c] = [45]) := by
      by_cases q : c = 45
      · subst q; rfl
      · rw [decide_eq_false (by simpa using q)]
        refine Bool.eq_false_iff.mpr fun z => q ?_
        have z := eq_of_beq z
        have z : #[c] = #[45] := z
        simpa using z
    rw [h]
    have h1 : (0 + (S [45]).length ≤ (S (c :: l)).length) := by rw [S_len]; show 0 + 1 ≤ l.length + 1; omega
    rw [decide_eq_true h1, Bool.true_and]
    rfl
def figs (l : List Nat) : List Nat := if neg l = true then l.drop 1 else l
theorem figs_eq (l : List Nat) : decide (figs l = l) = !neg l := by
  unfold figs
  cases h : neg l with
  | false => simp
  | true =>
    rw [if_pos rfl]
    refine decide_eq_false fun z => ?_
    unfold neg at h
    have := of_decide_eq_true h
    cases l with
    | nil => cases this
    | cons c l =>
      have q := congrArg List.length z
      simp at q
@[simp] theorem gStr_ap (op : Str → PyData → O PyData) (ga gb : Rho → O PyData) (ρ : Rho) : gStr op ga gb ρ = (ga ρ).bind fun d => match d with
  | .str a => (gb ρ).bind (op a)
  | _ => .bad := rfl
def val (l : List Nat) : Int := (NumText.digitsVal l : Nat)
def numV (l : List Nat) : Int := if neg l = true then -val (figs l) else val (figs l)
def numOk (l : List Nat) (L : Nat) : Bool := decide ((figs l).length ≤ L) && (figOk (figs l) && !decide (l = [45, 48]))
theorem figOk_dig {l : List Nat} (h : figOk l = true) : l.all dig = true ∧ l ≠ [] := by
  unfold figOk at h
  rw [Bool.and_eq_true, Bool.and_eq_true] at h
  exact ⟨h.1.2, by simpa using h.1.1⟩
theorem int_of {l : List Nat} (h : figOk l = true) (hl : l.length ≤ 600) : bInt [.str (S l)] = .ok (.int (val l)) := by
  obtain ⟨h1, h2⟩ := figOk_dig h
  have e := int_S h1 h2 (by omega)
  show (if (S l).length ≤ 640 then _ else _) = _
  rw [if_pos (by rw [S_len]; omega), e]
  rfl
theorem val_pos (l : List Nat) : 0 ≤ val l := Int.natCast_nonneg _
theorem str_nat {n : Nat} (h : n.log2 < 1920) : bStr [.int (n : Int)] = .ok (.str (S (TL.numL n))) := by
  have e : bStr [.int (n : Int)] = if (n : Int).natAbs.log2 < 1920 then .ok (.str (Str.ofString (toString ((n : Nat) : Int)))) else .bad := rfl
  rw [e, if_pos (by rw [Int.natAbs_natCast]; exact h), num_S]
theorem num50 : TL.numL 50 = [53, 48] := by decide +kernel
theorem num2000 : TL.numL 2000 = [50, 48, 48, 48] := by decide +kernel
theorem bLen_S {l : List Nat} (h : l.length ≤ 100000) : bLen [.str (S l)] = .ok (.int (l.length : Nat)) := by
  have e : bLen [.str (S l)] = if (S l).length ≤ lim then .ok (.int ((S l).length : Nat)) else .bad := rfl
  rw [e, S_len, if_pos (lim5 h)]
theorem seq_nx {g h : Rho → R} {ρ ρ' : Rho} (e : g ρ = .nx ρ') : gSeq g h ρ = h ρ' := by
  show (g ρ).seq h = _
  rw [e]
  rfl
theorem seq_ex {g h : Rho → R} {ρ : Rho} {n : Nat} (e : g ρ = .ex n) : gSeq g h ρ = .ex n := by
  show (g ρ).seq h = _
  rw [e]
  rfl
theorem seq_rt {g h : Rho → R} {ρ : Rho} {d : PyData} (e : g ρ = .rt d) : gSeq g h ρ = .rt d := by
  show (g ρ).seq h = _
  rw [e]
  rfl
theorem if_of {t : Rho → O Bool} {u w : Rho → R} {ρ : Rho} {k : Bool} (e : t ρ = .ok k) : gIfS t u w ρ = if k = true then u ρ else w ρ := by
  show (t ρ).go _ = _
  rw [e]
  rfl
theorem set_of {i : Nat} {g : Rho → O PyData} {ρ : Rho} {d : PyData} (e : g ρ = .ok d) : gSet i g ρ = .nx (ρ.set i (some d)) := by
  show (g ρ).go _ = _
  rw [e]
  rfl
theorem number_ok {g : Nat} {L : Nat} (hg : g.log2 < 1920) (hL : (TL.numL g).length = L) (hL4 : L ≤ 4) {l : List Nat} (hl : l.length ≤ 50000) :
    f_number_read [.str (S l), .int (g : Int)] = if (numOk l L && decide ((numV l).natAbs ≤ g)) = true then .ok (.int (numV l)) else .ex 6 := by
  have e : rho0 4 [PyData.str (S l), .int (g : Int)] = [some (.str (S l)), some (.int (g : Int)), none, none] := rfl
  unfold f_number_read fnG
  rw [e]
  unfold g_number_read
  have hs := str_nat hg
  have hd : dStarts (S l) (.str (S [45])) = .ok (.bool (neg l)) := by
    show O.ok _ = _
    rw [starts_m]
  have hlen := lim5 (n := l.length) (by omega)
  have hfl : (figs l).length ≤ l.length := by
    unfold figs
    split
    · rw [List.length_drop]; omega
    · exact Nat.le_refl _
  have hlf := lim5 (n := (figs l).length) (by omega)
  have hlL := lim5 (n := L) (by omega)
  have f1 : gIf (gTru (gStr dStarts (gVar 0) (gC (.str "-")))) (gSl (gVar 0) (gPart (gC (.int 1))) gNoP) (gVar 0) [some (.str (S l)), some (.int (g : Int)), none, none] = .ok (.str (S (figs l))) := by
    rw [s_m]
    cases h : neg l with
    | true =>
      rw [h] at hd
      have : figs l = l.drop 1 := by unfold figs; rw [if_pos h]
      rw [this]
      simp -implicitDefEqProofs [hd, dSl, S_len, hlen, cut_from1]
    | false =>
      rw [h] at hd
      have : figs l = l := by unfold figs; rw [if_neg (by rw [h]; exact Bool.false_ne_true)]
      rw [this]
      simp -implicitDefEqProofs [hd]
  have hb1 := bLen_S (l := figs l) (by omega)
  have hb2 := bLen_S (l := TL.numL g) (by omega)
  rw [hL] at hb2
  have test : gOrT (gBl (gGt (gB bLen (gConsA (gVar 2) gNilA)) (gB bLen (gConsA (gB bStr (gConsA (gVar 1) gNilA)) gNilA)))) (gOrT (gNotT (gTru (gFn 1 f_are_figures (gConsA (gVar 2) gNilA)))) (gBl (gEq (gVar 0) (gC (.str "-0"))))) [some (.str (S l)), some (.int (g : Int)), some (.str (S (figs l))), none] = .ok (!numOk l L) := by
    unfold numOk
    rw [s_m0]
    by_cases h1 : (figs l).length ≤ L
    · have hf := are_figures_ok (l := figs l) (by omega)
      have n1 : ¬ L < (figs l).length := by omega
      cases h2 : figOk (figs l) with
      | true =>
        rw [h2] at hf
        simp -implicitDefEqProofs [hs, hb1, hb2, h1, n1, hf, dEq_S]
      | false =>
        rw [h2] at hf
        simp -implicitDefEqProofs [hs, hb1, hb2, h1, n1, hf]
    · have n1 : L < (figs l).length := by omega
      simp -implicitDefEqProofs [hs, hb1, hb2, h1, n1]
  rw [seq_nx (set_of f1)]
  show outR (gSeq _ _ [some (.str (S l)), some (.int (g : Int)), some (.str (S (figs l))), none]) = _
  cases h : numOk l L with
  | false =>
    rw [h] at test
    rw [seq_ex (by rw [if_of test]; rfl)]
    rfl
  | true =>
    rw [h] at test
    have hk := h
    unfold numOk at hk
    rw [Bool.and_eq_true, Bool.and_eq_true] at hk
    have hv := int_of hk.2.1 (by have := of_decide_eq_true hk.1; omega)
    have f3 : gIf (gBl (gEq (gVar 2) (gVar 0))) (gB bInt (gConsA (gVar 2) gNilA)) (gNeg (gB bInt (gConsA (gVar 2) gNilA))) [some (.str (S l)), some (.int (g : Int)), some (.str (S (figs l))), none] = .ok (.int (numV l)) := by
      have hq := dEq_S (figs l) l
      rw [figs_eq] at hq
      unfold numV
      cases hn : neg l with
      | true =>
        rw [hn] at hq
        simp -implicitDefEqProofs [hq, hv]
      | false =>
        rw [hn] at hq
        simp -implicitDefEqProofs [hq, hv]
    rw [seq_nx (by rw [if_of test]; rfl), seq_nx (set_of f3)]
    show outR (gSeq _ _ [some (.str (S l)), some (.int (g : Int)), some (.str (S (figs l))), some (.int (numV l))]) = _
    have hab : (if numV l < 0 then -numV l else numV l) = ((numV l).natAbs : Int) := by split <;> omega
    by_cases hg2 : (numV l).natAbs ≤ g
    · have n1 : ¬ (g : Int) < (numV l).natAbs := by omega
      simp -implicitDefEqProofs [hab, hg2, n1, outR, bAbs]
    · have n1 : (g : Int) < (numV l).natAbs := by omega
      simp -implicitDefEqProofs [hab, hg2, n1, outR, bAbs]
end K02

set_option Elab.async false
set_option linter.all false
set_option maxRecDepth 100000
namespace K02
open PySem PySem.Spec L2 Fn SX
/-! how great a number of many figures is -/
theorem fold_ge : ∀ (l : List Nat) (a : Nat), a * 10 ^ l.length ≤ l.foldl (fun acc c => acc * 10 + (c - 48)) a
  | [], a => by simp
  | c :: l, a => by
    have := fold_ge l (a * 10 + (c - 48))
    rw [List.foldl_cons, List.length_cons, Nat.pow_succ]
    refine Nat.le_trans ?_ this
    rw [Nat.mul_comm (10 ^ l.length) 10, ← Nat.mul_assoc]
    exact Nat.mul_le_mul_right _ (by omega)
theorem val_ge {c : Nat} {l : List Nat} (h : dig c = true) (h0 : c ≠ 48) : ((10 ^ l.length : Nat) : Int) ≤ val (c :: l) := by
  unfold val NumText.digitsVal
  rw [List.foldl_cons]
  have := fold_ge l (0 * 10 + (c - 48))
  unfold dig at h
  rw [Bool.and_eq_true] at h
  have h1 := of_decide_eq_true h.1
  have h2 : 1 ≤ 0 * 10 + (c - 48) := by omega
  have h3 : 10 ^ l.length ≤ (0 * 10 + (c - 48)) * 10 ^ l.length := Nat.le_mul_of_pos_left _ h2
  exact_mod_cast Nat.le_trans h3 this
def lawOk (l : List Nat) : Bool := !decide (figs l = []) && (decide ((figs l).length ≤ 6) && ((figs l).all dig && !(decide ((figs l).head? = some 48) && (decide (1 < (figs l).length) || neg l))))
theorem neg_cons {l : List Nat} (h : neg l = true) : ∃ r, l = 45 :: r ∧ figs l = r := by
  have hf : figs l = l.drop 1 := by unfold figs; rw [if_pos h]
  unfold neg at h
  have := of_decide_eq_true h
  cases l with
  | nil => cases this
  | cons c l =>
    have : c = 45 := by simpa using this
    subst this
    exact ⟨l, rfl, hf⟩
/-- the law's reading and the program's are one -/
theorem same_ok {g L : Nat} (hg : g < 10 ^ L) (hL : 1 ≤ L) (hL4 : L ≤ 6) (l : List Nat) : (lawOk l && decide (val (figs l) ≤ (g : Int))) = (numOk l L && decide ((numV l).natAbs ≤ g)) := by
  have hv : (numV l).natAbs ≤ g ↔ val (figs l) ≤ (g : Int) := by
    have := val_pos (figs l)
    unfold numV
    split <;> omega
  rw [Bool.eq_iff_iff]
  unfold lawOk numOk figOk
  simp only [Bool.and_eq_true, Bool.not_eq_true', decide_eq_true_eq, decide_eq_false_iff_not, Bool.or_eq_true, Bool.and_eq_false_imp, Bool.or_eq_false_iff, hv]
  constructor
  · rintro ⟨⟨h1, h2, h3, h4⟩, h5⟩
    obtain ⟨c, t, hc⟩ : ∃ c t, figs l = c :: t := by
      cases q : figs l with
      | nil => exact absurd q h1
      | cons c t => exact ⟨c, t, rfl⟩
    have hd : dig c = true := by rw [hc] at h3; rw [List.all_cons, Bool.and_eq_true] at h3; exact h3.1
    by_cases h0 : c = 48
    · have h4 := h4 (by rw [hc, h0]; rfl)
      have ht : t = [] := by
        cases t with
        | nil => rfl
        | cons x y => rw [hc] at h4; simp at h4
      refine ⟨⟨by rw [hc, ht]; exact hL, ⟨⟨h1, h3⟩, .inl (by rw [hc, h0, ht])⟩, fun z => ?_⟩, h5⟩
      have : neg l = true := by rw [z]; rfl
      rw [this] at h4
      cases h4.2
    · have hb := val_ge (l := t) hd h0
      rw [← hc] at hb
      refine ⟨⟨?_, ⟨⟨h1, h3⟩, .inr (by rw [hc]; simpa using h0)⟩, fun z => ?_⟩, h5⟩
      · rw [hc, List.length_cons]
        by_cases q : t.length < L
        · omega
        · have : 10 ^ L ≤ 10 ^ t.length := Nat.pow_le_pow_right (by decide) (by omega)
          omega
      · have hn : neg l = true := by rw [z]; rfl
        obtain ⟨r, e1, e2⟩ := neg_cons hn
        rw [z] at e1
        cases e1
        rw [e2] at hc
        cases hc
        exact h0 rfl
  · rintro ⟨⟨h1, ⟨⟨h2, h3⟩, h4⟩, h5⟩, h6⟩
    refine ⟨⟨h2, by omega, h3, fun hh => ?_⟩, h6⟩
    rcases h4 with h4 | h4
    · refine ⟨by rw [h4]; simp, ?_⟩
      cases hn : neg l with
      | false => rfl
      | true =>
        obtain ⟨r, e1, e2⟩ := neg_cons hn
        rw [e2] at h4
        rw [h4] at e1
        exact absurd e1 h5
    · exact absurd hh h4
end K02

set_option Elab.async false
set_option linter.all false
set_option maxRecDepth 100000
namespace K02
open PySem PySem.Spec L2 Fn SX
theorem noEx_okB {o : O PyData} {k : Bool} (h : o = .ok (.bool k)) : noEx o = .ok (.bool k) := by rw [h]; rfl
theorem law_number {g : Int} {l : List Nat} (hl : l.length ≤ 50000) :
    f__law_number_in [.str (S l), .int g] = if (lawOk l && decide (val (figs l) ≤ g)) = true then .ok (.int (numV l)) else .ok .none := by
  have e : rho0 5 [PyData.str (S l), .int g] = [some (.str (S l)), some (.int g), none, none, none] := rfl
  unfold f__law_number_in fnG
  rw [e]
  unfold g__law_number_in
  rw [s_m, s_e, s_0, s_d]
  have hlen := lim5 (n := l.length) (by omega)
  have hfl : (figs l).length ≤ l.length := by
    unfold figs
    split
    · rw [List.length_drop]; omega
    · exact Nat.le_refl _
  have hn : dEq (.str (S (l.take 1))) (.str (S [45])) = .ok (.bool (neg l)) := dEq_S _ _
  rw [seq_nx (set_of (d := .str (S l)) rfl)]
  show outR (gSeq _ _ [some (.str (S l)), some (.int g), some (.str (S l)), none, none]) = _
  have s2 : gIfS (gBl (gEq (gSl (gVar 0) gNoP (gPart (gC (.int 1)))) (gC (.str (S [45]))))) (gSet 2 (gSl (gVar 0) (gPart (gC (.int 1))) gNoP)) gNext [some (.str (S l)), some (.int g), some (.str (S l)), none, none] = .nx [some (.str (S l)), some (.int g), some (.str (S (figs l))), none, none] := by
    have t : gBl (gEq (gSl (gVar 0) gNoP (gPart (gC (.int 1)))) (gC (.str (S [45])))) [some (.str (S l)), some (.int g), some (.str (S l)), none, none] = .ok (neg l) := by
      simp -implicitDefEqProofs [dSl, S_len, hlen, cut_to1, hn]
    rw [if_of t]
    unfold figs
    cases h : neg l with
    | true =>
      rw [if_pos rfl, if_pos rfl]
      simp -implicitDefEqProofs [dSl, S_len, hlen, cut_from1]
    | false => rfl
  rw [seq_nx s2]
  have hb1 := bLen_S (l := figs l) (by omega)
  -- empty, or too long
  have t3 : gOrT (gBl (gEq (gVar 2) (gC (.str (S []))))) (gBl (gGt (gB bLen (gConsA (gVar 2) gNilA)) (gC (.int 6)))) [some (.str (S l)), some (.int g), some (.str (S (figs l))), none, none] = .ok (decide (figs l = []) || decide (6 < (figs l).length)) := by
    have h1 := dEq_S (figs l) []
    by_cases q : figs l = []
    · simp -implicitDefEqProofs [dEq_S, q]
    · simp -implicitDefEqProofs [dEq_S, q, hb1]
      omega
  cases h3 : (decide (figs l = []) || decide (6 < (figs l).length)) with
  | true =>
    rw [h3] at t3
    have h4 : lawOk l = false := by
      unfold lawOk
      rw [Bool.or_eq_true] at h3
      rcases h3 with z | z
      · rw [z]; rfl
      · have : ¬ (figs l).length ≤ 6 := by have := of_decide_eq_true z; omega
        rw [decide_eq_false this]
        simp
    rw [seq_rt (by rw [if_of t3]; rfl), h4]
    rfl
  | false =>
    rw [h3] at t3
    rw [Bool.or_eq_false_iff] at h3
    have n1 : figs l ≠ [] := of_decide_eq_false h3.1
    have n2 : (figs l).length ≤ 6 := by have := of_decide_eq_false h3.2; omega
    rw [seq_nx (by rw [if_of t3]; rfl)]
    -- its signs
    have lp := for_find (f := aName 3) (body := gIfS (gBl (gNotIn (gVar 3) (gC (.str (S digL))))) (gRet (gC .none)) gNext) (fun c => PyData.str (S [c])) (fun x : Option PyData => [some (.str (S l)), some (.int g), some (.str (S (figs l))), x, none]) dig .none (figs l) none (fun c hc x => by
      refine ⟨_, rfl, fun hd => ⟨some (.str (S [c])), ?_⟩, fun hd => ?_⟩
      · have := dNotIn_S c
        rw [hd] at this
        show gIfS _ _ _ [some (.str (S l)), some (.int g), some (.str (S (figs l))), some (.str (S [c])), none] = _
        simp -implicitDefEqProofs [this]
      · have := dNotIn_S c
        rw [hd] at this
        show gIfS _ _ _ [some (.str (S l)), some (.int g), some (.str (S (figs l))), some (.str (S [c])), none] = _
        simp -implicitDefEqProofs [this])
    have hit : gItA (gVar 2) [some (.str (S l)), some (.int g), some (.str (S (figs l))), none, none] = .ok ((figs l).map fun c => .str (S [c])) := by simp -implicitDefEqProofs [items_S]
    have hfor : ∀ r, forL (aName 3) (gIfS (gBl (gNotIn (gVar 3) (gC (.str (S digL))))) (gRet (gC .none)) gNext) ((figs l).map fun c => .str (S [c])) [some (.str (S l)), some (.int g), some (.str (S (figs l))), none, none] = r →
        gFor (aName 3) (gItA (gVar 2)) (gIfS (gBl (gNotIn (gVar 3) (gC (.str (S digL))))) (gRet (gC .none)) gNext) [some (.str (S l)), some (.int g), some (.str (S (figs l))), none, none] = r := fun r h => by
      show (gItA (gVar 2) _).go _ = _
      rw [hit]
      exact h
    rcases lp with ⟨p1, x, p2⟩ | ⟨p1, p2⟩
    · rw [seq_nx (hfor _ p2)]
      obtain ⟨c, t, hc⟩ : ∃ c t, figs l = c :: t := by
        cases q : figs l with
        | nil => exact absurd q n1
        | cons c t => exact ⟨c, t, rfl⟩
      have hix : dIx (.str (S (figs l))) (.int 0) = .ok (.str (S [c])) := by rw [hc]; exact dIx_S (by rw [← hc]; omega)
      have hx0 : dEq (.str (S [c])) (.str (S [48])) = .ok (.bool (decide (c = 48))) := by
        rw [dEq_S]
        simp
      have hne : dNe (.str (S (figs l))) (.str (S l)) = .ok (.bool (neg l)) := by
        rw [dNe_S, figs_eq, Bool.not_not]
      have t5 : gAndT (gBl (gEq (gIx (gVar 2) (gC (.int 0))) (gC (.str (S [48]))))) (gOrT (gBl (gGt (gB bLen (gConsA (gVar 2) gNilA)) (gC (.int 1)))) (gBl (gNe (gVar 2) (gVar 0)))) [some (.str (S l)), some (.int g), some (.str (S (figs l))), x, none] = .ok (decide (c = 48) && (decide (1 < (figs l).length) || neg l)) := by
        by_cases q : c = 48
        · by_cases q2 : 1 < (figs l).length
          · have q3 : (1 : Int) < ((figs l).length : Nat) := by omega
            simp -implicitDefEqProofs [hix, dEq_S, hb1, q, q2, q3]
          · have q3 : ¬ (1 : Int) < ((figs l).length : Nat) := by omega
            simp -implicitDefEqProofs [hix, dEq_S, hb1, q, q2, q3, hne]
        · rw [decide_eq_false q] at hx0
          simp -implicitDefEqProofs [hix, hx0, q]
      have hlaw : lawOk l = !(decide (c = 48) && (decide (1 < (figs l).length) || neg l)) := by
        unfold lawOk
        have : (figs l).head? = some c := by rw [hc]; rfl
        rw [p1, decide_eq_false n1, decide_eq_true n2, this]
        simp
      rw [hlaw]
      cases h5 : (decide (c = 48) && (decide (1 < (figs l).length) || neg l)) with
      | true =>
        rw [h5] at t5
        rw [seq_rt (by rw [if_of t5]; rfl)]
        rfl
      | false =>
        rw [h5] at t5
        rw [seq_nx (by rw [if_of t5]; rfl)]
        have hv := int_S p1 n1 (by omega)
        have hv : bInt [.str (S (figs l))] = .ok (.int (val (figs l))) := by
          have e1 : bInt [.str (S (figs l))] = if (S (figs l)).length ≤ 640 then (match PySem.intText? (S (figs l)) with | some n => .ok (.int n) | none => .bad) else .bad := rfl
          rw [e1, if_pos (by rw [S_len]; omega), hv]
          rfl
        have s6 : gB bInt (gConsA (gVar 2) gNilA) [some (.str (S l)), some (.int g), some (.str (S (figs l))), x, none] = .ok (.int (val (figs l))) := by simp -implicitDefEqProofs [hv]
        rw [seq_nx (set_of s6)]
        show outR (gSeq _ _ [some (.str (S l)), some (.int g), some (.str (S (figs l))), x, some (.int (val (figs l)))]) = _
        by_cases h7 : val (figs l) ≤ g
        · have n7 : ¬ g < val (figs l) := by omega
          unfold numV
          cases hneg : neg l with
          | true =>
            rw [hneg] at hne
            simp -implicitDefEqProofs [h7, n7, hne, outR]
          | false =>
            rw [hneg] at hne
            simp -implicitDefEqProofs [h7, n7, hne, outR]
        · have n7 : g < val (figs l) := by omega
          simp -implicitDefEqProofs [h7, n7, outR]
    · rw [seq_rt (hfor _ p2)]
      have : lawOk l = false := by
        unfold lawOk
        rw [p1]
        simp
      rw [this]
      rfl
end K02

set_option Elab.async false
set_option linter.all false
set_option maxRecDepth 100000
set_option maxHeartbeats 2000000
/-! A list comprehension whose element may be refused: the refusal goes on in the def. -/
namespace Fn
open PySem PySem.Spec PyProof.Rows L2
theorem noteFrame_eq {e : Value} {env env' : Env} (h : env.frame = env'.frame) : noteFrame e env = noteFrame e env' := by
  unfold noteFrame PySem.frameOf
  rw [h]
theorem passOn_eq {α : Type} {what : String} {e : Value} {env env' : Env} (h : env.frame = env'.frame) : (passOn what e env : Sem α) = passOn what e env' := by
  unfold PySem.passOn
  rw [h]
theorem ff_move {h h' base B : Heap} : ∀ {l : List Env}, h.FunFrames base l → (∀ L ∈ frs l, B.get? L = none) → (∀ L ∈ frs l, h'.get? L = h.get? L) → h'.FunFrames B l
  | [], _, _, _ => trivial
  | env :: l, ⟨hk, ⟨L, o, hf, _, ho, hd⟩, hr⟩, hn, hs => by
    have m : L ∈ frs (env :: l) := List.mem_filterMap.mpr ⟨env, List.mem_cons_self, hf⟩
    have up : ∀ b ∈ frs l, b ∈ frs (env :: l) := fun b hb => by
      obtain ⟨e, he, q⟩ := List.mem_filterMap.mp hb
      exact List.mem_filterMap.mpr ⟨e, List.mem_cons_of_mem _ he, q⟩
    exact ⟨hk, ⟨L, o, hf, hn L m, (hs L m).trans ho, hd⟩, ff_move hr (fun b hb => hn b (up b hb)) fun b hb => hs b (up b hb)⟩
/-- noted by the frame L, whatever noted it before -/
theorem note_any {M : Model} {A : Around} {E : Value → Shared → Prop} {env : Env} {outer : List Env} {s : Shared} {base : Heap} {a L : Addr} {Z : Obj → Prop} {fl : Value} {Q : Unit → Shared → Prop} (hZ : HandSPX.Steady Z) (hfr : A.frames = some (env :: outer)) (hf : env.frame = some L)
    (hkb : base.StaysIn s.heap) (hen : base.get? a = none) (hl : s.heap.FunFrames base (env :: outer)) (ht : HandSPX.TracedZ s.heap base a Z fl) (hne : (fl == rawInt L) = false)
    (hQ : ∀ h', HandSPX.HeldZ base (env :: outer) a Z L h' → s.heap.UpToSlots h' → Q () { s with heap := h' }) : wpAny M A (noteFrame (.ref a) env) Q E s := by
  obtain ⟨oe, vs, T, oT, ts, he, hz, hd, h1, hnT, hTe, hT, hdT, h3⟩ := ht
  unfold noteFrame
  simp only [hf]
  refine wpAny_bind (wpAny_field he hd h1 ?_)
  rw [if_pos (show (Value.ref T != Value.none) = true from by simp)]
  refine wpAny_bind (wpAny_field hT hdT h3 ?_)
  rw [if_neg (by rw [hne]; exact Bool.false_ne_true)]
  refine wpAny_bind (wpAny_setField hT hdT (Array.getElem?_eq_some_iff.mp h3).1 ?_)
  have oth : ∀ b, b ≠ T → (s.heap.update T (Obj.mapFields (·.setIfInBounds 3 Value.none))).get? b = s.heap.get? b := fun b hb => Heap.get?_update_other _ _ (Ne.symm hb)
  have rcd : ∀ b o, s.heap.get? b = some o → (∀ vs, o.data ≠ .fields vs) → b ≠ T := fun b o hb hn q => by
    rw [q, hT] at hb
    cases hb
    exact hn ts hdT
  refine HandSPX.wpAny_entryZ hZ hfr (hl.of_keeps fun b o hb hn => ⟨o, (oth b (rcd b o hb hn)).trans hb, rfl⟩) hf ((oth a (Ne.symm hTe)).trans he)
    (fun b o hbo => (oth b fun q => by rw [q, hnT] at hbo; cases hbo).trans (hkb b o hbo)) hen hd (Array.getElem?_eq_some_iff.mp h1).1 hz fun h' hN => ?_
  obtain ⟨x1, x2, x3, x4⟩ := hN
  exact hQ h' ⟨x1, hen, x2, x3⟩ fun b o hb hn => x4 b o ((oth b (rcd b o hb hn)).trans hb) hn
section
variable {X : Cx} {W : WX} {pins : List (Addr × Obj)} {σ : L2.St} {H' : Hp} {sI s' : Shared} {B : Heap} {a C : Addr} {ce : Env} {cls : Value} {d : Option Addr}
theorem comp_air {E₁ : Value → Shared → Prop} (hs : X.stack = X.env :: X.outer) (hf : X.env.frame = some X.env.locals) (tk : Takes X W) (I7 : Inv X pins σ H' sI) (fC : FpOk X pins H' C) (hC : ∃ m, sI.heap.Ns C m) (cF : C ∉ frs X.stack) (hce : ce.frame = X.env.frame) (hcl : ce.locals = C)
    (nb : ∀ b o, sI.heap.get? b = some o → b ∉ frs X.stack → B.get? b = some o) (up : sI.heap.UpToSlots s'.heap) (sky : Sky B X.stack a (Zc cls d) C s'.heap) (na : H' a = none) (os : s'.os = sI.os) (ag : AllBare s'.gens) (w : W cls d σ H') :
    wpAny (model X.prog X.w) X.A (noteFrame (.ref a) ce) (fun _ s2 => CompFails (model X.prog X.w) X.A X.xe ce (.ref a) s2) E₁ s' := by
  rw [noteFrame_eq hce]
  have hfr : X.A.frames = some (X.env :: X.outer) := by rw [I7.ok.frames, hs]
  have nCL : C ≠ X.env.locals := fC.2.1
  obtain ⟨m, hm⟩ := hC
  obtain ⟨oC, esC, epC, hoC, hdC, hrC⟩ := id hm
  have fin : ∀ h1, HandSPX.HeldZ B (X.env :: X.outer) a (Zc cls d) X.env.locals h1 → s'.heap.UpToSlots h1 → CompFails (model X.prog X.w) X.A X.xe ce (.ref a) { s' with heap := h1 } := fun h1 ⟨k1, k2, k3, k4⟩ up1 => by
    have bC : B.get? C = some oC := nb C oC hoC cF
    refine ⟨m, ?_, fun h' m' hm' sb => ?_⟩
    · rw [hcl]
      exact ⟨oC, esC, epC, k1 C oC bC, hdC, hrC⟩
    · rw [hcl] at sb
      rw [passOn_eq hce]
      obtain ⟨oe, vs, T, oT, ts, he, hz, hd, h1', hnT, hTe, hT, hdT, h3⟩ := k4
      have aC : a ≠ C := fun z => by
        subst z
        rw [k1 a oC bC] at he
        cases he
        rw [hdC] at hd
        cases hd
      have TC : T ≠ C := fun z => by
        subst z
        rw [k1 T oC bC] at hT
        cases hT
        rw [hdC] at hdT
        cases hdT
      have ff := ff_move (h' := h') (B := PySem.W.hideAll B [C]) k3 (fun b hb => by
        cases q : (PySem.W.hideAll B [C]).get? b with
        | none => rfl
        | some o =>
          have z := PySem.W.of_hideAll _ q
          rw [(k3.mem hb).1] at z
          cases z) (fun b hb => sb.2 b fun z => cF (by rw [hs, ← z]; exact hb))
      have st : (PySem.W.hideAll B [C]).StaysIn h' := fun b o q => by
        have n : b ≠ C := fun z => by rw [z, PySem.W.hideAll_none _ List.mem_cons_self] at q; cases q
        rw [sb.2 b n]
        exact k1 b o (PySem.W.of_hideAll _ q)
      have hn0 : ∀ {x : Addr}, B.get? x = none → (PySem.W.hideAll B [C]).get? x = none := fun {x} z => by
        cases q : (PySem.W.hideAll B [C]).get? x with
        | none => rfl
        | some o =>
          have z2 := PySem.W.of_hideAll _ q
          rw [z] at z2
          cases z2
      have he' := (sb.2 a aC).trans he
      have hT' := (sb.2 T TC).trans hT
      have tr : HandSPX.TracedZ h' (PySem.W.hideAll B [C]) a (Zc cls d) (rawInt X.env.locals) := ⟨oe, vs, T, oT, ts, he', hz, hd, h1', hn0 hnT, hTe, hT', hdT, h3⟩
      unfold PySem.passOn
      refine wpAny_bind (wpAny_field he' hd h1' ?_)
      rw [if_neg (show ¬ ((Value.ref T == Value.none) = true) from by simp)]
      have last : wpAny (model X.prog X.w) X.A (setFlight (.ref a) X.env.frame) (fun _ s4 => wpAny (model X.prog X.w) X.A (throw (.ref a) : Sem Value) (fun _ _ => False) X.xe s4) X.xe { s' with heap := h' } := by
        rw [hf]
        refine HandSPX.setFlight_anyZ st ff tr fun h4 q1 q2 q3 q4 => wpAny_throw (tk _ _ ?_)
        refine ⟨a, PySem.W.hideAll B [C], { sI with heap := PySem.W.hideAll sI.heap [C] }, pins, σ, H', cls, d, rfl, ?_, fun b o q hb => ?_, fun b o q hn => ?_, .inr (.inr ?_), na, os, ag, w⟩
        · obtain ⟨f0, f1, f2, f3, f4, f5⟩ := fC
          exact I7.turned (t' := sI.toks) (fun b o hb e => PySem.W.hideAll_get _ e fun z => hb (List.mem_singleton.mp z)) f0 f1 f3 f4 f5
        · have n : b ≠ C := fun z => by rw [z, PySem.W.hideAll_none _ List.mem_cons_self] at q; cases q
          exact PySem.W.hideAll_get _ (nb b o (PySem.W.of_hideAll _ q) hb) fun z => n (List.mem_singleton.mp z)
        · have n : b ≠ C := fun z => by rw [z, PySem.W.hideAll_none _ List.mem_cons_self] at q; cases q
          obtain ⟨l1, e1⟩ := up b o (PySem.W.of_hideAll _ q) hn
          obtain ⟨l2, e2⟩ := up1 b _ e1 hn
          obtain ⟨l3, e3⟩ := q4 b _ ((sb.2 b n).trans e2) hn
          exact ⟨l3, e3⟩
        · rw [hs]
          exact ⟨q1, hn0 k2, q2, q3⟩
      first
        | exact wpAny_bind (wpAny_pure (wpAny_bind last))
        | exact wpAny_bind last
  rw [hs] at sky
  rcases sky with ⟨hB, hn, hl, oe, vs, he, hz, hd, h1⟩ | fl | hh
  · exact HandSPX.look_newZ Zc.steady hfr hl hf he hB hn hd h1 hz fin
  · exact HandSPX.looks_onZ Zc.steady hfr hf fl fin
  · exact note_any Zc.steady hfr hf hh.1 hh.2.1 hh.2.2.1 hh.2.2.2 (by
      refine Bool.eq_false_iff.mpr fun z => nCL ?_
      have z := eq_of_beq z
      unfold rawInt at z
      injection z with z _
      exact_mod_cast z) fin
end
end Fn

set_option Elab.async false
set_option linter.all false
set_option maxRecDepth 100000
set_option maxHeartbeats 4000000
namespace Fn
open PySem PySem.Spec PyProof.Rows L2
abbrev blkE (X : Cx) (s : Shared) (H : Hp) (scope : Scope) (cenv : Env) (fp : List Addr) (xe : Value → Shared → Prop) : Cx := (X.blk s H scope cenv fp).tr [] xe
/-- [elt for target in iter], elt may be refused -/
def tLcX (wi : TI) (g : TG) (te : XK → TE) (vs : List Nat) (W : WX) : TE := fun σ H Q => wi σ H fun J H1 => ∀ D, H1 D = none → ∃ T : Nat → Nat → Hp → Prop, (∃ m, T 0 m (L2.upd H1 D (.lst []))) ∧ ∀ i m H, T i m H →
  (J.stop i H ∧ Q (.ref D) H) ∨ (J.go i H ∧ ∃ Nx : Hp → Prop, (∀ H', Nx H' → ∃ m', m' < m ∧ T (i + 1) m' H') ∧ ∀ x H', J.yld i H x H' → g x (wipe σ vs) H' fun σ2 H2 => wipe σ2 vs = wipe σ vs ∧
    te (fun cls d H => W cls d σ H) σ2 H2 fun y H4 => ∃ acc, H4 D = some (.lst acc) ∧ acc.length < sizeLine ∧ Nx (L2.upd H4 D (.lst (acc ++ [y]))))
section
variable {X : Cx}
theorem lc_coreX {pins : List (Addr × Obj)} {s : Shared} {σ : L2.St} {H : Hp} {Q : VK} {elt tg iter : Expr} {scope : Scope} {own : List (Str × Nat)} {pos pos' : Pos} {wi : TI} {g : TG} {te : XK → TE} {W : WX} {use : Option (Value → Sem Unit)} {Qf : Value → Shared → Prop}
    (hst : X.stack = X.env :: X.outer) (hfr : X.env.frame = some X.env.locals) (tk : Takes X W)
    (hc : X.calm = true) (hN : X.N.Nodup) (I : Inv X pins σ H s) (hi : PI X tg iter wi) (ok : BlkOk X.N X.env.scope scope own)
    (hg : ∀ (s : Shared) (H : Hp) (C : Addr) (cl : List (Str × Addr)) (fp : List Addr) (xe : Value → Shared → Prop), PG (blkE X s H scope (compEnvC scope cl C X.env) fp xe) tg g)
    (he : ∀ (s : Shared) (H : Hp) (C : Addr) (cl : List (Str × Addr)) (fp : List Addr) (xe : Value → Shared → Prop) (E : XK), (∀ σ, PassesAt (L2.CX X.prog X.w) (blkE X s H scope (compEnvC scope cl C X.env) fp xe) σ E) → PE (blkE X s H scope (compEnvC scope cl C X.env) fp xe) elt (te E)) (hs : ∀ x, foldedSetIterable iter X.env x = pure x)
    (h : tLcX wi g te (own.map (·.2)) W σ H Q)
    (hRR : ∀ D C ce s' m H', ce.locals = C → Inv X pins σ H' s' → Q (.ref D) H' → s'.heap.Ns C m → FpOk X pins H' C → compEnds (model X.prog X.w) X.A X.xe use Qf (.ref D) ce (.ok .next) s') :
    wpAny (model X.prog X.w) X.A (comprehension (.ListComp elt [⟨tg, iter, [], 0⟩] scope pos) scope X.env pos' (newList []) false (eval iter X.env) use) Qf X.xe s := by
  have hfree : ∀ y ∈ scope.names, y.2 = .free → ∃ c, X.env.cells.lookup y.1 = some c := fun y hy e => by
    rcases ok.free y hy e with k | k
    · exact I.ok.has _ (.inl k)
    · exact I.ok.has _ (.inr k)
  refine comprehension_at (use := use) rfl hs (closure_ok hfree) ok.kind (fun y hy e => by rw [ok.uniq y hy, e])
    (thn (hi.run pins s σ H _ I h) fun xv s1 hx => thn hx fun itv s2 h2 => ?_)
  obtain ⟨it, fp, tn, J, H2, e, I2, T, st2, f2, q⟩ := h2
  subst e
  refine wpAny_newObj_type (newEnv_comp ?_) (by show 0 ≤ sizeLine; decide)
  generalize hD : s2.heap.objs.size = D
  have hDn : H2 D = none := I2.hok.fresh (Nat.le_of_eq hD)
  obtain ⟨Tn, ⟨m0, w0⟩, turn⟩ := q D hDn
  generalize hs3 : ({ s2 with heap := s2.heap.push { cls := .type "list", data := .seq ([] : List Value).toArray } } : Shared) = s3
  have I3 : Inv X pins σ (L2.upd H2 D (.lst [])) s3 := by
    rw [← hs3]
    refine I2.laid (t' := s2.toks) (fun b o e => Heap.get?_push_of_some _ e) (Nat.le_of_eq hD) ⟨Nat.zero_le _, [], 0, .nil, ?_⟩
    rw [← hD]
    exact Heap.get?_push_size _ rfl
  have h3 : s3.heap = s2.heap.push { cls := .type "list", data := .seq ([] : List Value).toArray } := by rw [← hs3]
  have f3 : ∀ b ∈ fp, FpOk X pins (L2.upd H2 D (.lst [])) b ∧ b < s3.heap.objs.size := fun b hb => by
    obtain ⟨o, e, _⟩ := T.obj _ _ st2 b hb
    have hlt := Heap.lt_size e
    refine ⟨⟨?_, (f2 b hb).2⟩, by rw [h3, Heap.size_push]; exact Nat.lt_succ_of_lt hlt⟩
    rw [upd_ne (by rw [← hD]; exact Nat.ne_of_lt hlt)]
    exact (f2 b hb).1
  have st3 : tn 0 s3.heap := T.keep _ _ _ st2 fun b _ o e => by rw [h3]; exact Heap.get?_push_of_some _ e
  have I4 := block_start I3 ok hN f3
  generalize hcl : cellsFrom (s3.heap.objs.size + 1) scope.names (cloFrom X.env.cells scope.names []) = cl at I4
  show codeAny _ _ (.compStart (.ListComp elt [⟨tg, iter, [], 0⟩] scope pos) 0 (.ref it) (.ref D) (compEnvC scope cl s3.heap.objs.size X.env))
    (compEnds (model X.prog X.w) X.A X.xe use Qf (.ref D) (compEnvC scope cl s3.heap.objs.size X.env)) { s3 with heap := pushCells (s3.heap.push { cls := .type "dict", data := .dict #[] }) scope.names }
  have nfp : ∀ b ∈ fp, (L2.upd H2 D (.lst [])) b = none := fun b hb => (f3 b hb).1.1
  generalize hce : compEnvC scope cl s3.heap.objs.size X.env = ce at I4
  have cL : ce.locals = s3.heap.objs.size := by subst hce; rfl
  have cF : ce.frame = X.env.frame := by subst hce; rfl
  generalize hH3 : L2.upd H2 D (.lst []) = H3 at I3 I4 w0 nfp f3
  generalize hs4 : ({ s3 with heap := pushCells (s3.heap.push { cls := .type "dict", data := .dict #[] }) scope.names } : Shared) = s4 at I4 ⊢
  have st4 : tn 0 s4.heap := T.keep _ _ _ st3 fun b _ o e => by rw [← hs4]; exact pushCells_keeps _ _ _ _ (Heap.get?_push_of_some _ e)
  have cN : s3.heap.objs.size ∉ frs X.stack := fun hm => by
    obtain ⟨_, o, ho, _⟩ := I3.stack.mem hm
    exact absurd (Heap.lt_size ho) (Nat.lt_irrefl _)
  -- what leaves the block
  generalize hxe : (fun (u : Value) (s' : Shared) => notedBy (model X.prog X.w) X.A ce (fun e s'' => compEnds (model X.prog X.w) X.A X.xe use Qf (.ref D) ce (.error e) s'') u s') = xe
  have pass : ∀ σb : L2.St, PassesAt (L2.CX X.prog X.w) (blkE X s3 H3 scope ce fp xe) σb (fun cls d H => W cls d σ H) := fun σb pins5 H5 s5 e s' I5 c => by
    obtain ⟨a, B, sI, pins6, σ6, H6, cls, d, rfl, I6, nb, up, sky, na, os, ag, hw⟩ := XE.of_call (W := fun cls d _ H => W cls d σ H) I5 (fun _ _ _ h => h) c
    rw [← hxe]
    have nC : H6 s3.heap.objs.size = none := by
      have z : H6 ce.locals = none := I6.free
      rw [cL] at z
      exact z
    obtain ⟨m, hn, _⟩ := I6.loc
    have hn : sI.heap.Ns ce.locals m := hn
    rw [cL] at hn
    have I7 : Inv X pins σ H6 sI := I3.call' (ch := fp) I6.os I6.base I6.hok I6.bare fun b hb => ⟨(f3 b hb).1.2.2.2.1, (f3 b hb).1.2.1, (f3 b hb).1.2.2.2.2.1, (f3 b hb).1.2.2.2.2.2⟩
    have sky : Sky B X.stack a (Zc cls d) s3.heap.objs.size s'.heap := by
      rw [← cL]
      exact sky
    exact wpAny_mono (comp_air hst hfr tk I7 (I3.fpOk (Nat.le_refl _) nC) ⟨m, hn⟩ cN cF cL nb up sky na os ag hw) (fun _ s2 z => by cases use <;> exact z) fun _ _ z => z
  have I4 : Inv (blkE X s3 H3 scope ce fp xe) [] (wipe σ (own.map (·.2))) H3 s4 := I4.toTry xe
  have pg := hg s3 H3 s3.heap.objs.size cl fp xe
  have pe := he s3 H3 s3.heap.objs.size cl fp xe (fun cls d H => W cls d σ H)
  rw [hce] at pg pe
  have pe := pe pass
  have stat : ∀ {σ' : L2.St} {H' : Hp} {s' : Shared}, Inv (blkE X s3 H3 scope ce fp xe) [] σ' H' s' → (∀ b ∈ fp, H' b = none) → ∀ b ∈ fp, FpOk (blkE X s3 H3 scope ce fp xe) [] H' b := fun {σ' H' s'} I' hn b hb =>
    ⟨hn b hb, (I'.ok.exf b hb).1, I'.ok.exfs b hb, .inl hb, fun x c e => (I'.ok.exf b hb).2 x c e, fun p hp => absurd (show p ∈ ([] : List (Addr × Obj)) ++ [] from hp) (by simp)⟩
  have loop : codeAny (model X.prog X.w) X.A (.compLoop (.ListComp elt [⟨tg, iter, [], 0⟩] scope pos) 0 (.ref it) (.ref D) ce) (compEnds (model X.prog X.w) X.A X.xe use Qf (.ref D) ce) s4 := by
    refine compLoop_any (fun n s' => ∃ i H', Inv (blkE X s3 H3 scope ce fp xe) [] (wipe σ (own.map (·.2))) H' s' ∧ tn i s'.heap ∧ (∀ b ∈ fp, H' b = none) ∧ Tn i n H') ?_ m0 ⟨0, H3, I4, st4, nfp, w0⟩
    rintro n s5 ⟨i, H5, I5, st5, n5, w5⟩
    rcases turn i n H5 w5 with ⟨stop, qq⟩ | ⟨go, Nx, hNx, step⟩
    · have td := T.done (blkE X s3 H3 scope ce fp xe) rfl rfl rfl hc i [] s5 _ H5 (fun _ _ => False) I5 (stat I5 n5) st5 stop
      refine thnF td fun r s6 ⟨hr, I6⟩ => ?_
      subst hr
      have I7 : Inv X pins σ H5 s6 := I3.call' (ch := fp) I6.os I6.base I6.hok I6.bare fun b hb => ⟨(f3 b hb).1.2.2.2.1, (f3 b hb).1.2.1, (f3 b hb).1.2.2.2.2.1, (f3 b hb).1.2.2.2.2.2⟩
      have nC : H5 s3.heap.objs.size = none := by
        have z : H5 ce.locals = none := I6.free
        rw [cL] at z
        exact z
      obtain ⟨m, hn, _⟩ := I6.loc
      have hn : s6.heap.Ns ce.locals m := hn
      rw [cL] at hn
      exact hRR D s3.heap.objs.size ce s6 m H5 cL I7 qq hn (I3.fpOk (Nat.le_refl _) nC)
    · have ti := T.item (blkE X s3 H3 scope ce fp xe) rfl rfl rfl hc i [] s5 _ H5 (fun _ _ => False) I5 (stat I5 n5) st5 go
      refine thnF ti fun r s6 ⟨u, hr, h6⟩ => ?_
      subst hr
      refine thnF h6 fun _ s7 ⟨x, H7, I7, r7, y7, st7, n7⟩ => ?_
      have I7' := I7.pinned (stat I7 n7) (T.obj _ _ st7)
      have r0 := pg.run _ s7 _ H7 x u _ I7' r7 (step x H7 y7)
      refine wpAny_mono r0 (fun _ s8 ⟨σ8, H8, I8, hw8, q8⟩ => ?_) (fun e s z => by
        have z : xe e s := z
        rw [← hxe] at z
        exact z)
      refine wpAny_tests_nil ?_
      have fin : ∀ {s' : Shared} {H' : Hp}, Inv (blkE X s3 H3 scope ce fp xe) ([] ++ pinsAt fp s7.heap) σ8 H' s' → Nx H' → ∃ m, m < n ∧ ∃ i H', Inv (blkE X s3 H3 scope ce fp xe) [] (wipe σ (own.map (·.2))) H' s' ∧ tn i s'.heap ∧ (∀ b ∈ fp, H' b = none) ∧ Tn i m H' := fun {s' H'} I' nx => by
        obtain ⟨m', hm, w'⟩ := hNx H' nx
        have pin' : ∀ b ∈ fp, ∀ o, s7.heap.get? b = some o → s'.heap.get? b = some o ∧ H' b = none := fun b hb o e =>
          let z := I'.pin (b, o) (List.mem_append_right _ (List.mem_append_right _ (mem_pinsAt hb e)))
          ⟨z.1, z.2.1⟩
        have hl : (wipe σ (own.map (·.2))).length = σ8.length := by rw [← hw8, wipe_length]
        refine ⟨m', hm, i + 1, H', (I'.unpinned (pins := [])).weak hl (fun j v e => ?_), T.keep _ _ _ st7 fun b hb o e => (pin' b hb o e).1, fun b hb => ?_, w'⟩
        · rw [← hw8] at e
          exact (wipe_some e).1
        · obtain ⟨o, e, _⟩ := T.obj _ _ st7 b hb
          exact (pin' b hb o e).2
      rw [if_pos rfl]
      have r1 := pe.run _ s8 σ8 H8 _ I8 q8
      refine wpAny_mono r1 (fun z s10 ⟨yv, H10, I10, r10, acc, hD10, hz10, nx⟩ => ?_) (fun e s z => by
        have z : xe e s := z
        rw [← hxe] at z
        exact z)
      exact app_ok (X := blkE X s3 H3 scope ce fp xe) I10 hD10 hz10 r10 fun s11 I11 => fin I11 nx
  exact codeAny_compStart_list loop (T.self X.A 0 _ _ _ st4 loop)
end
end Fn

set_option Elab.async false
set_option linter.all false
set_option maxRecDepth 100000
namespace Fn
open PySem PySem.Spec PyProof.Rows L2
section
variable {X : Cx}
theorem ps_setLcX {i : Nat} {y : Str} {py : Pos} {elt tg iter : Expr} {scope : Scope} {own : List (Str × Nat)} {pos spos : Pos} {wi : TI} {g : TG} {te : XK → TE} {W : WX} (hst : X.stack = X.env :: X.outer) (hfr : X.env.frame = some X.env.locals) (tk : Takes X W)
    (hc : X.calm = true) (hN : X.N.Nodup) (hy : X.N[i]? = some y) (hyl : X.env.scope.names.lookup y = some .local) (hsw : swapsWith (.ListComp elt [⟨tg, iter, [], 0⟩] scope pos) (some (.Name y py)) spos.line X.env = pure true) (hi : PI X tg iter wi) (ok : BlkOk X.N X.env.scope scope own)
    (hg : ∀ (s : Shared) (H : Hp) (C : Addr) (cl : List (Str × Addr)) (fp : List Addr) (xe : Value → Shared → Prop), PG (blkE X s H scope (compEnvC scope cl C X.env) fp xe) tg g)
    (he : ∀ (s : Shared) (H : Hp) (C : Addr) (cl : List (Str × Addr)) (fp : List Addr) (xe : Value → Shared → Prop) (E : XK), (∀ σ, PassesAt (L2.CX X.prog X.w) (blkE X s H scope (compEnvC scope cl C X.env) fp xe) σ E) → PE (blkE X s H scope (compEnvC scope cl C X.env) fp xe) elt (te E)) (hs : ∀ x, foldedSetIterable iter X.env x = pure x := by intro _; rfl) :
    PS X (.Assign [.Name y py] (.ListComp elt [⟨tg, iter, [], 0⟩] scope pos) spos) (tAsg (tLcX wi g te (own.map (·.2)) W) (gName i)) := by
  refine ⟨fun pins s σ H D I h => ?_⟩
  rw [exec_Assign_Name_used _ _ _ _ hsw]
  refine wpAny_bind (wpAny_standAt (wpAny_bind ?_))
  show wpAny _ X.A (do let _ ← comprehension (.ListComp elt [⟨tg, iter, [], 0⟩] scope pos) scope X.env (firstIterPos [⟨tg, iter, [], 0⟩] pos) (newList []) false (eval iter X.env) (some (assign (.Name y py) X.env))) _ _ s
  have h : tLcX wi g te (own.map (·.2)) W σ H (fun x H1 => gName i x σ H1 D.nx) := h
  refine wpAny_bind (thn (lc_coreX (Qf := fun _ s' => SP X pins D .next s') hst hfr tk hc hN I hi ok hg he hs h fun L C ce s' m H' hcC I' q hn f => ?_) fun _ s' hq => wpAny_pure (wpAny_pure hq))
  show wpAny _ _ (assign (.Name y py) X.env (.ref L)) _ _ _
  refine wpAny_assign_Name (store_ok2 (v := V.ref L) I' hN hy (.inl hyl) rfl (fun s2 I2 ⟨a, sb, ha⟩ => ?_) (.inr hyl))
  obtain ⟨f0, f1, f2, f3, f4, f5⟩ := f
  have haC : C ≠ a := by
    rcases ha with z | z
    · rw [z]; exact f1
    · exact fun e => f4 y a z e.symm
  rw [hcC]
  refine ⟨m, hn.sameBut sb haC, fun h3 sb3 => ?_⟩
  exact ⟨_, H', I2.turned (t' := s2.toks) (fun b o hb e => (sb3.2 b hb).trans e) f0 f1 f3 f4 f5, q⟩
theorem pe_callOX {cls xc : Nat → Addr} {x : Str} {ps : List Str} {n k j : Nat} {g : List PyData → O PyData} {E : XK} {p pos : Pos} {e : Expr} {es : List Expr} {t : TA} (o : OkAt X.prog X.w X.K X.mg X.base cls xc x ps n k g) (hr : Room j X.A) (hk : k ≤ j) (hg : Gl X x) (hx : ∀ σ, PassesAt (L2.CX X.prog X.w) X σ E) (ha : PA X (e :: es) t) (hdb : (x == ("__debug__" : Str)) = false := by decide)
    (he : starEach (e :: es) X.env = (false, eval e X.env) :: starEach es X.env := by rfl) (hpl : (backTo pos (starEach es X.env)).any (·.1) = false := by rfl) :
    PE X (.Call (.Name x p) (e :: es) [] pos) (tCallS (spF X.K cls xc n g) (WE fun cls d _ H => E cls d H) t) := by
  obtain ⟨f, fd, F, m, kp, b⟩ := o
  exact pe_callS F (hr.mono hk) hg m kp b hx ha hdb he hpl
end
/-- as compL, an element may be refused -/
def compLX (e : Rho → O PyData) (j : Nat) (ρ : Rho) : List PyData → O (List PyData)
  | [] => .ok []
  | d :: ds => (e (ρ.set j (some d))).bind fun y => (compLX e j ρ ds).bind fun ys => .ok (y :: ys)
def gCompX (vs : List Nat) (j : Nat) (e : Rho → O PyData) (gi : Rho → O (List PyData)) : Rho → O PyData := fun ρ => (gi ρ).bind fun ds => if ds.length ≤ lim then (compLX e j (wipeR ρ vs) ds).bind fun ys => .ok (.list ys) else .bad
section
variable {K : PySem.W.Frag} {c : Ct} {own : List Nat}
theorem fo_compX {vs : List Nat} {j : Nat} {wi : TI} {te : XK → TE} {gi : Rho → O (List PyData)} {e : Rho → O PyData} (hi : FI K c own wi gi) (hg : FC K c.noW own vs (gName j) (aName j)) (he : ∀ E : XK, FE K { c with W := fun cls d _ H => E cls d H } own true (te E) e) :
    FO K c own (tLcX wi (gName j) te vs c.W) (gCompX vs j e gi) := fun σ H F ρ Q S q => by
  refine hi σ H F ρ _ S (OPost.imp (fun ds q J H1 F1 e1 it => ?_) (fun _ q => q) (OPost.bind q))
  split at q
  · rename_i hlim
    intro A hA
    have S1 := S.ext e1
    generalize hR : compLX e j (wipeR ρ vs) ds = R at q
    refine ⟨fun i m H2 => m = ds.length - i ∧ i ≤ ds.length ∧ ∃ F2 acc as, Ext F1 H1 F2 H2 ∧ H2 A = some (.lst acc) ∧ F2 A = none ∧ RepL K c.cls F2 acc as ∧ as.length ≤ i ∧ (compLX e j (wipeR ρ vs) (ds.drop i)).bind (fun ys => .ok (as ++ ys)) = R,
      ⟨ds.length, by omega, Nat.zero_le _, F1, [], [], Ext.newO e1.s hA, upd_same, e1.s.free hA, .nil, Nat.zero_le _, by
        rw [List.drop_zero, hR]
        cases R <;> rfl⟩, ?_⟩
    rintro i m H2 ⟨rfl, hle, F2, acc, as, e2, hD, hF, hr, hl, hcR⟩
    obtain ⟨i1, i2, i3⟩ := it F2 H2 e2.f e2.s i
    by_cases hlt : i < ds.length
    · refine .inr ⟨i1 hlt, fun H3 => ∃ F3 acc as', Ext F1 H1 F3 H3 ∧ H3 A = some (.lst acc) ∧ F3 A = none ∧ RepL K c.cls F3 acc as' ∧ as'.length ≤ i + 1 ∧ (compLX e j (wipeR ρ vs) (ds.drop (i + 1))).bind (fun ys => .ok (as' ++ ys)) = R,
        fun H3 z => ⟨ds.length - (i + 1), by omega, rfl, hlt, z⟩, fun x H3 y => ?_⟩
      obtain ⟨F3, e3, r3⟩ := i3 x H3 ds[i] (List.getElem?_eq_getElem hlt) y
      rw [List.drop_eq_getElem_cons hlt] at hcR
      unfold compLX at hcR
      have e13 := e2.trans e3
      refine hg x ds[i] (L2.wipe σ vs) H3 F3 (wipeR ρ vs) _ ((S1.ext e13).wipe vs) r3 ?_
      intro σ4 w4 S4
      refine ⟨w4.trans (wipe_wipe σ vs), he (fun cls d H => c.W cls d σ H) σ4 H3 F3 _ _ S4 ?_⟩
      have nF : ∀ {F5 H5}, Ext F2 H2 F5 H5 → F5 A = none := fun {F5 H5} ee => by
        cases qq : F5 A with
        | none => rfl
        | some o =>
          rcases ee.n A o qq with z | z
          · rw [hF] at z; cases z
          · rw [hD] at z; cases z
      cases hy : e ((wipeR ρ vs).set j (some ds[i])) with
      | ok y =>
        rw [hy] at hcR
        intro u H5 F5 e5 r5
        have e25 := e3.trans e5
        refine ⟨acc, e25.h _ _ hD, by rw [hr.length]; exact lt_lim (by omega), F5, _, as ++ [y], (e2.trans e25).updNew hA (nF e25), upd_same, nF e25, (hr.mono e25.f).append (.cons r5 .nil), by rw [List.length_append, List.length_singleton]; omega, ?_⟩
        rw [← hcR]
        show _ = ((compLX e j (wipeR ρ vs) (ds.drop (i + 1))).bind fun ys => O.ok (y :: ys)).bind _
        cases compLX e j (wipeR ρ vs) (ds.drop (i + 1)) with
        | ok ys =>
          show O.ok (as ++ [y] ++ ys) = O.ok (as ++ (y :: ys))
          rw [List.append_assoc]
          rfl
        | ex n => rfl
        | bad => rfl
      | ex n =>
        rw [hy] at hcR
        have hcR : O.ex n = R := hcR
        rw [← hcR] at q
        exact fun H5 s5 => q H5 (e1.h.trans (e13.h.trans s5))
      | bad =>
        rw [hy] at hcR
        have hcR : O.bad = R := hcR
        rw [← hcR] at q
        exact q.elim
    · have : i = ds.length := by omega
      subst this
      rw [List.drop_length] at hcR
      have hcR : O.ok (as ++ []) = R := hcR
      rw [← hcR, List.append_nil] at q
      obtain ⟨_, ez, q⟩ := q
      cases ez
      exact .inl ⟨i2 rfl, q A acc H2 F2 (e1.trans e2) hD hF (e1.h.free hA) hr⟩
  · exact q.elim
theorem gCompX_list {vs : List Nat} {j : Nat} {e : Rho → O PyData} {gi : Rho → O (List PyData)} : ∀ ρ d, gCompX vs j e gi ρ = .ok d → ∃ ds, d = .list ds := fun ρ d h => by
  unfold gCompX at h
  obtain ⟨ds, _, h⟩ := O.bind_okI h
  split at h
  · obtain ⟨ys, _, h⟩ := O.bind_okI h
    cases h
    exact ⟨_, rfl⟩
  · cases h
end
/-- all are good, or one is refused -/
theorem compX_of {α : Type} {vs : List Nat} {i : Nat} {e : Rho → O PyData} {gi : Rho → O (List PyData)} {ρ : Rho} (L : List α) (φ ψ : α → PyData) (p : α → Bool) (n : Nat) (hg : gi ρ = .ok (L.map φ)) (hn : L.length ≤ lim)
    (h : ∀ a ∈ L, e ((wipeR ρ vs).set i (some (φ a))) = if p a = true then .ok (ψ a) else .ex n) : gCompX vs i e gi ρ = if L.all p = true then .ok (.list (L.map ψ)) else .ex n := by
  have key : ∀ M : List α, (∀ a ∈ M, a ∈ L) → compLX e i (wipeR ρ vs) (M.map φ) = if M.all p = true then .ok (M.map ψ) else .ex n := fun M => by
    induction M with
    | nil => intro _; rfl
    | cons a M ih =>
      intro hM
      have e1 := h a (hM a List.mem_cons_self)
      have e2 := ih fun b hb => hM b (List.mem_cons_of_mem _ hb)
      rw [List.map_cons, List.all_cons]
      unfold compLX
      rw [e1]
      cases hp : p a with
      | false => rfl
      | true =>
        rw [if_pos rfl, Bool.true_and]
        show (compLX _ _ _ (M.map φ)).bind _ = _
        rw [e2]
        cases M.all p <;> rfl
  show (gi ρ).bind _ = _
  rw [hg]
  show (if (L.map φ).length ≤ lim then _ else _) = _
  rw [if_pos (by rw [List.length_map]; exact hn), key L fun _ h => h]
  cases L.all p <;> rfl
end Fn

set_option Elab.async false
set_option linter.all false
set_option maxRecDepth 100000
namespace K02
open PySem PySem.Spec L2 Fn SX
def words (l : List Nat) : List (List Nat) := TL.spl [32] 0 [] l
theorem spl_bd : ∀ (l acc : List Nat) (N : Nat), acc.length + l.length ≤ N → (TL.spl [32] 0 acc l).length ≤ l.length + 1 ∧ ∀ w ∈ TL.spl [32] 0 acc l, w.length ≤ N
  | [], acc, N, h => by
    rw [TL.spl_nil]
    refine ⟨Nat.le_refl _, fun w hw => ?_⟩
    rw [List.mem_singleton.mp hw]
    simpa using h
  | c :: l, acc, N, h => by
    rw [List.length_cons] at h
    cases q : TL.pre [32] (c :: l) with
    | true =>
      rw [TL.spl_hit q]
      obtain ⟨h1, h2⟩ := spl_bd l [] N (by simp; omega)
      refine ⟨by rw [List.length_cons, List.length_cons]; exact Nat.succ_le_succ h1, fun w hw => ?_⟩
      rcases List.mem_cons.mp hw with rfl | z
      · omega
      · exact h2 w z
    | false =>
      rw [TL.spl_miss q]
      obtain ⟨h1, h2⟩ := spl_bd l (acc ++ [c]) N (by simp; omega)
      exact ⟨by rw [List.length_cons]; omega, h2⟩
theorem words_len (l : List Nat) : (words l).length ≤ l.length + 1 := (spl_bd l [] l.length (by simp)).1
theorem words_bd (l : List Nat) : ∀ w ∈ words l, w.length ≤ l.length := (spl_bd l [] l.length (by simp)).2
theorem split_ok {l : List Nat} (h : l.length ≤ 50000) : dSplit (S l) (.str (S [32])) = .ok (.list ((words l).map fun w => .str (S w))) := by
  show (if ((S [32]).length == 0) = false ∧ (S l).length + 2 ≤ lim then O.ok (PyData.list ((Txt.split (S l) (S [32])).map PyData.str)) else .bad) = _
  rw [if_pos ⟨rfl, by rw [S_len]; exact lim5 (by omega)⟩, split_S (by simp) rfl, List.map_map]
  rfl
theorem two_last {α : Type} {xs : List α} (h : 2 ≤ xs.length) : ∃ ys a b, xs = ys ++ [a, b] := by
  refine ⟨xs.take (xs.length - 2), xs[xs.length - 2], xs[xs.length - 1], ?_⟩
  refine List.ext_getElem? fun i => ?_
  by_cases h1 : i < xs.length - 2
  · rw [List.getElem?_append_left (by rw [List.length_take]; omega), List.getElem?_take_of_lt h1]
  · rw [List.getElem?_append_right (by rw [List.length_take]; omega), List.length_take, Nat.min_eq_left (by omega)]
    have h3 : i = xs.length - 2 ∨ i = xs.length - 1 ∨ xs.length ≤ i := by omega
    rcases h3 with rfl | rfl | h3
    · rw [Nat.sub_self, List.getElem?_eq_getElem (by omega)]; rfl
    · rw [show xs.length - 1 - (xs.length - 2) = 1 by omega, List.getElem?_eq_getElem (by omega)]; rfl
    · rw [List.getElem?_eq_none h3, List.getElem?_eq_none (by simp; omega)]
theorem atI_2 {α : Type} (ys : List α) (a b : α) : atI (ys ++ [a, b]) (-2) = some a := by
  unfold atI ixN
  have hl : (ys ++ [a, b]).length = ys.length + 2 := by simp
  rw [if_neg (by omega), if_pos (by rw [hl]; omega)]
  show (ys ++ [a, b])[((-2 : Int) + ((ys ++ [a, b]).length : Nat)).toNat]? = _
  rw [hl, show ((-2 : Int) + ((ys.length + 2 : Nat) : Int)).toNat = ys.length by omega, List.getElem?_append_right (Nat.le_refl _), Nat.sub_self]
  rfl
theorem atI_1 {α : Type} (ys : List α) (a b : α) : atI (ys ++ [a, b]) (-1) = some b := by
  have := atI_last (ys ++ [a]) b
  rw [List.append_assoc] at this
  exact this
theorem cut_2 {α : Type} (ys : List α) (a b : α) : cutL (ys ++ [a, b]) none (some (-2)) = ys := by
  unfold cutL
  rw [HT.sIx_none, List.drop_zero, Nat.sub_zero]
  have hl : (ys ++ [a, b]).length = ys.length + 2 := by simp
  have e : HT.sIx (ys ++ [a, b]).length (ys ++ [a, b]).length (some (-2)) = ys.length := by
    have := HT.clip_eq (-2) (ys ++ [a, b]).length (ys ++ [a, b]).length
    rw [if_pos (by decide)] at this
    omega
  rw [e, List.take_left']
  rfl
def isW (w : List Nat) : Bool := decide (w = [109, 111, 115, 116]) || decide (w = [108, 101, 97, 115, 116])
theorem s_most : ("most" : Str) = S [109, 111, 115, 116] := by decide +kernel
theorem s_least : ("least" : Str) = S [108, 101, 97, 115, 116] := by decide +kernel
theorem eqv_S (a b : List Nat) : PyData.eqv (.str (S a)) (.str (S b)) = decide (a = b) := by
  show (S a == S b) = _
  rw [S_beq_eq]
theorem is_word_ok (w : List Nat) : f_is_word [.str (S w)] = .ok (.bool (isW w)) := by
  have e : rho0 1 [PyData.str (S w)] = [some (.str (S w))] := rfl
  unfold f_is_word fnG
  rw [e]
  unfold g_is_word
  rw [s_most, s_least]
  have h : dIn false (.str (S w)) (.tuple [.str (S [109, 111, 115, 116]), .str (S [108, 101, 97, 115, 116])]) = .ok (.bool (isW w)) := by
    show (O.ok (List.any _ _)).bind _ = _
    unfold isW
    simp only [List.any_cons, List.any_nil, eqv_S, Bool.or_false]
    show O.ok (PyData.bool (_ || _)) = _
    congr 2
    congr 1 <;> exact decide_eq_decide.mpr eq_comm
  have h2 : bIsi "str" (.str (S w)) = .ok (.bool true) := rfl
  simp -implicitDefEqProofs [h, h2, outR]
end K02

set_option Elab.async false
set_option linter.all false
set_option maxRecDepth 100000
namespace K02
open PySem PySem.Spec L2 Fn SX
def nOk (g L : Nat) (w : List Nat) : Bool := numOk w L && decide ((numV w).natAbs ≤ g)
theorem p50 {w : List Nat} (h : w.length ≤ 50000) : f_number_read [.str (S w), .int 50] = if nOk 50 2 w = true then .ok (.int (numV w)) else .ex 6 :=
  number_ok (g := 50) (L := 2) (by decide) (by rw [num50]; rfl) (by decide) h
theorem p2000 {w : List Nat} (h : w.length ≤ 50000) : f_number_read [.str (S w), .int 2000] = if nOk 2000 4 w = true then .ok (.int (numV w)) else .ex 6 :=
  number_ok (g := 2000) (L := 4) (by decide) (by rw [num2000]; rfl) (by decide) h
theorem q50 {w : List Nat} (h : w.length ≤ 50000) : f__law_number_in [.str (S w), .int 50] = if nOk 50 2 w = true then .ok (.int (numV w)) else .ok .none := by
  rw [law_number h]
  have := same_ok (g := 50) (L := 2) (by decide) (by decide) (by decide) w
  unfold nOk
  rw [← this]
  rfl
theorem q2000 {w : List Nat} (h : w.length ≤ 50000) : f__law_number_in [.str (S w), .int 2000] = if nOk 2000 4 w = true then .ok (.int (numV w)) else .ok .none := by
  rw [law_number h]
  have := same_ok (g := 2000) (L := 4) (by decide) (by decide) (by decide) w
  unfold nOk
  rw [← this]
  rfl
def g_readX : Rho → R :=
    (gSeq (gIfS (gNotT (gTru (gIsi "str" (gVar 0)))) (gRaise 6) gNext)
    (gSeq (gSet 1 (gStr dSplit (gVar 0) (gC (.str " "))))
    (gSeq (gIfS (gOrT (gNotT (gBl (gChain dLe dLe (gC (.int 3)) (gB bLen (gConsA (gVar 1) gNilA)) (gAdd (gC (.int (3))) (gC (.int 2)))))) (gNotT (gTru (gFn 1 f_is_word (gConsA (gIx (gVar 1) (gNeg (gC (.int 2)))) gNilA))))) (gRaise 6) gNext)
    (gSeq (gSet 2 (gCompX [3] 3 (gFn 2 f_number_read (gConsA (gVar 3) (gConsA (gC (.int (50))) gNilA))) (gItA (gSl (gVar 1) gNoP (gPart (gNeg (gC (.int 2))))))))
    (gRet (gTup (gConsA (gB bTup (gConsA (gVar 2) gNilA)) (gConsA (gIx (gVar 1) (gNeg (gC (.int 2)))) (gConsA (gFn 2 f_number_read (gConsA (gIx (gVar 1) (gNeg (gC (.int 1)))) (gConsA (gC (.int (2000))) gNilA))) gNilA)))))))))
def f_readX : List PyData → O PyData := fnG 4 g_readX
/-- what both read of a text -/
def readV (l : List Nat) : Option (List Int × List Nat × Int) :=
  if 3 ≤ (words l).length ∧ (words l).length ≤ 5 then
    (match (words l).reverse with
    | w1 :: w2 :: init => if isW w2 = true ∧ init.all (nOk 50 2) = true ∧ nOk 2000 4 w1 = true then some (init.reverse.map numV, w2, numV w1) else none
    | _ => none)
  else none
def rowD (r : List Int × List Nat × Int) : PyData := .tuple [.tuple (r.1.map PyData.int), .str (S r.2.1), .int r.2.2]
def strW (w : List Nat) : PyData := .str (S w)
theorem readX_ok {l : List Nat} (hl : l.length ≤ 20000) : f_readX [.str (S l)] = match readV l with
    | some r => .ok (rowD r)
    | none => .ex 6 := by
  have e : rho0 4 [PyData.str (S l)] = [some (.str (S l)), none, none, none] := rfl
  unfold f_readX fnG
  rw [e]
  unfold g_readX
  rw [s_b]
  have hs : dSplit (S l) (.str (S [32])) = .ok (.list ((words l).map strW)) := split_ok (by omega)
  have hb := words_bd l
  have hwl := words_len l
  have hisi : bIsi "str" (.str (S l)) = .ok (.bool true) := rfl
  rw [seq_nx (ρ' := [some (.str (S l)), none, none, none]) (by simp -implicitDefEqProofs [hisi]),
    seq_nx (ρ' := [some (.str (S l)), some (.list ((words l).map strW)), none, none]) (by simp -implicitDefEqProofs [hs])]
  unfold readV
  by_cases h3 : 3 ≤ (words l).length ∧ (words l).length ≤ 5
  · rw [if_pos h3]
    obtain ⟨init, w2, w1, hw⟩ := two_last (xs := words l) (by omega)
    rw [hw] at h3 hb ⊢
    rw [List.reverse_append]
    show _ = match (if isW w2 = true ∧ init.reverse.all (nOk 50 2) = true ∧ nOk 2000 4 w1 = true then some (init.reverse.reverse.map numV, w2, numV w1) else none) with
      | some r => O.ok (rowD r)
      | none => .ex 6
    rw [List.reverse_reverse, List.all_reverse]
    have hlen : init.length + 2 = (init ++ [w2, w1]).length := by simp
    have b1 : w1.length ≤ 50000 := by have := hb w1 (by simp); omega
    have hi2 : dIx (.list ((init ++ [w2, w1]).map strW)) (.int (-2)) = .ok (strW w2) := dIx_l _ _ (by rw [List.map_append]; exact atI_2 _ _ _)
    have hi1 : dIx (.list ((init ++ [w2, w1]).map strW)) (.int (-1)) = .ok (strW w1) := dIx_l _ _ (by rw [List.map_append]; exact atI_1 _ _ _)
    have hc2 : cutL ((init ++ [w2, w1]).map strW) none (some (-2)) = init.map strW := by rw [List.map_append]; exact cut_2 _ _ _
    have hbl : bLen [.list ((init ++ [w2, w1]).map strW)] = .ok (.int ((init ++ [w2, w1]).length : Nat)) := by
      show O.ok (PyData.int (List.length _ : Nat)) = _
      rw [List.length_map]
    have hiw : f_is_word [strW w2] = .ok (.bool (isW w2)) := is_word_ok w2
    have c3 : (3 : Int) ≤ ((init ++ [w2, w1]).length : Nat) := by omega
    have c5 : (((init ++ [w2, w1]).length : Nat) : Int) ≤ 5 := by omega
    have n1 : f_number_read [strW w1, .int 2000] = if nOk 2000 4 w1 = true then .ok (.int (numV w1)) else .ex 6 := p2000 b1
    generalize (init ++ [w2, w1]).length = n at hlen c3 c5 hbl h3
    generalize hW : (init ++ [w2, w1]).map strW = W at hi2 hi1 hc2 hbl ⊢
    have t3 : gOrT (gNotT (gBl (gChain dLe dLe (gC (.int 3)) (gB bLen (gConsA (gVar 1) gNilA)) (gAdd (gC (.int (3))) (gC (.int 2)))))) (gNotT (gTru (gFn 1 f_is_word (gConsA (gIx (gVar 1) (gNeg (gC (.int 2)))) gNilA)))) [some (.str (S l)), some (.list W), none, none] = .ok (!isW w2) := by
      simp -implicitDefEqProofs [hbl, c3, c5, hi2, hiw]
    cases hk : isW w2 with
    | false =>
      rw [hk] at t3
      rw [seq_ex (by rw [if_of t3]; rfl)]
      simp [outR]
    | true =>
      rw [hk] at t3
      rw [seq_nx (by rw [if_of t3]; rfl)]
      have hcp := compX_of (vs := [3]) (i := 3) (e := gFn 2 f_number_read (gConsA (gVar 3) (gConsA (gC (.int (50))) gNilA))) (gi := gItA (gSl (gVar 1) gNoP (gPart (gNeg (gC (.int 2)))))) (ρ := [some (.str (S l)), some (.list W), none, none]) init strW (fun w => .int (numV w)) (nOk 50 2) 6
        (by simp -implicitDefEqProofs [dSl, hc2, itemsA]) (lim5 (by omega)) (fun w hw' => by
          have := p50 (w := w) (by have := hb w (by simp [hw']); omega)
          have : f_number_read [strW w, .int 50] = if nOk 50 2 w = true then .ok (.int (numV w)) else .ex 6 := this
          simp -implicitDefEqProofs [this])
      cases ha : init.all (nOk 50 2) with
      | false =>
        rw [ha] at hcp
        rw [seq_ex (by show (gCompX _ _ _ _ _).go _ = _; rw [hcp]; rfl)]
        simp [outR]
      | true =>
        rw [ha] at hcp
        rw [seq_nx (set_of hcp)]
        show outR (gRet _ [some (.str (S l)), some (.list W), some (.list (init.map fun w => .int (numV w))), none]) = _
        cases h1 : nOk 2000 4 w1 with
        | false =>
          rw [h1] at n1
          simp -implicitDefEqProofs [hi1, hi2, n1, outR]
        | true =>
          rw [h1] at n1
          simp -implicitDefEqProofs [hi1, hi2, n1, outR, rowD]
          try rfl
  · rw [if_neg h3]
    have hbl : bLen [.list ((words l).map strW)] = .ok (.int ((words l).length : Nat)) := by
      show O.ok (PyData.int (List.length _ : Nat)) = _
      rw [List.length_map]
    have t3 : gOrT (gNotT (gBl (gChain dLe dLe (gC (.int 3)) (gB bLen (gConsA (gVar 1) gNilA)) (gAdd (gC (.int (3))) (gC (.int 2)))))) (gNotT (gTru (gFn 1 f_is_word (gConsA (gIx (gVar 1) (gNeg (gC (.int 2)))) gNilA)))) [some (.str (S l)), some (.list ((words l).map strW)), none, none] = .ok true := by
      generalize (words l).length = n at h3 hbl
      by_cases c3 : (3 : Int) ≤ (n : Nat)
      · have c5 : ¬ ((n : Nat) : Int) ≤ 5 := by omega
        simp -implicitDefEqProofs [hbl, c3, c5]
      · simp -implicitDefEqProofs [hbl, c3]
    rw [seq_ex (by rw [if_of t3]; rfl)]
    rfl
end K02

set_option Elab.async false
set_option linter.all false
set_option maxRecDepth 100000
namespace K02
open PySem PySem.Spec L2 Fn SX
def numD (w : List Nat) : PyData := if nOk 50 2 w = true then .int (numV w) else .none
theorem none_in (init : List (List Nat)) : dIn false .none (.list (init.map numD)) = .ok (.bool (!init.all (nOk 50 2))) := by
  have h1 : (flatD .none && (init.map numD).all flatD) = true := by
    show (true && _) = true
    rw [Bool.true_and, List.all_map, List.all_eq_true]
    intro w _
    show flatD (numD w) = true
    unfold numD
    split <;> rfl
  show (dInB _ _).bind _ = _
  have h2 : dInB .none (.list (init.map numD)) = .ok (!init.all (nOk 50 2)) := by
    show (if (flatD .none && (init.map numD).all flatD) = true then O.ok ((init.map numD).any fun e => PyData.eqv e .none) else .bad) = _
    rw [if_pos h1]
    congr 1
    induction init with
    | nil => rfl
    | cons w init ih =>
      rw [List.map_cons, List.any_cons, List.all_cons, ih (by
        rw [List.map_cons, List.all_cons] at h1
        simp only [Bool.and_eq_true] at h1 ⊢
        exact ⟨h1.1, h1.2.2⟩)]
      unfold numD
      cases nOk 50 2 w <;> rfl
  rw [h2]
  rfl
theorem isN_n : dIsN .none .none = .ok (.bool true) := rfl
theorem isN_i (k : Int) : dIsN (.int k) .none = .ok (.bool false) := rfl
theorem law_read_ok {l : List Nat} (hl : l.length ≤ 20000) : f__law_read [.str (S l)] = match readV l with
    | some r => .ok (rowD r)
    | none => .ok .none := by
  have e : rho0 5 [PyData.str (S l)] = [some (.str (S l)), none, none, none, none] := rfl
  unfold f__law_read fnG
  rw [e]
  unfold g__law_read
  rw [s_b, s_most, s_least]
  have hs : dSplit (S l) (.str (S [32])) = .ok (.list ((words l).map strW)) := split_ok (by omega)
  have hb := words_bd l
  have hwl := words_len l
  rw [seq_nx (ρ' := [some (.str (S l)), some (.list ((words l).map strW)), none, none, none]) (by simp -implicitDefEqProofs [hs])]
  unfold readV
  by_cases h3 : 3 ≤ (words l).length ∧ (words l).length ≤ 5
  · rw [if_pos h3]
    obtain ⟨init, w2, w1, hw⟩ := two_last (xs := words l) (by omega)
    rw [hw] at h3 hb ⊢
    rw [List.reverse_append]
    show _ = match (if isW w2 = true ∧ init.reverse.all (nOk 50 2) = true ∧ nOk 2000 4 w1 = true then some (init.reverse.reverse.map numV, w2, numV w1) else none) with
      | some r => O.ok (rowD r)
      | none => .ok .none
    rw [List.reverse_reverse, List.all_reverse]
    have hlen : init.length + 2 = (init ++ [w2, w1]).length := by simp
    have b1 : w1.length ≤ 50000 := by have := hb w1 (by simp); omega
    have hi2 : dIx (.list ((init ++ [w2, w1]).map strW)) (.int (-2)) = .ok (strW w2) := dIx_l _ _ (by rw [List.map_append]; exact atI_2 _ _ _)
    have hi1 : dIx (.list ((init ++ [w2, w1]).map strW)) (.int (-1)) = .ok (strW w1) := dIx_l _ _ (by rw [List.map_append]; exact atI_1 _ _ _)
    have hc2 : cutL ((init ++ [w2, w1]).map strW) none (some (-2)) = init.map strW := by rw [List.map_append]; exact cut_2 _ _ _
    have hbl : bLen [.list ((init ++ [w2, w1]).map strW)] = .ok (.int ((init ++ [w2, w1]).length : Nat)) := by
      show O.ok (PyData.int (List.length _ : Nat)) = _
      rw [List.length_map]
    have hiw : dIn true (strW w2) (.list [.str (S [109, 111, 115, 116]), .str (S [108, 101, 97, 115, 116])]) = .ok (.bool (!isW w2)) := by
      show (O.ok (List.any _ _)).bind _ = _
      unfold isW strW
      simp only [List.any_cons, List.any_nil, eqv_S, Bool.or_false]
      show O.ok (PyData.bool (!(_ || _))) = _
      congr 2
      congr 1
      congr 1 <;> exact decide_eq_decide.mpr eq_comm
    have c3 : (3 : Int) ≤ ((init ++ [w2, w1]).length : Nat) := by omega
    have c5 : (((init ++ [w2, w1]).length : Nat) : Int) ≤ 5 := by omega
    have n1 : f__law_number_in [strW w1, .int 2000] = if nOk 2000 4 w1 = true then .ok (.int (numV w1)) else .ok .none := q2000 b1
    generalize (init ++ [w2, w1]).length = n at hlen c3 c5 hbl h3
    generalize hW : (init ++ [w2, w1]).map strW = W at hi2 hi1 hc2 hbl ⊢
    have t3 : gOrT (gNotT (gBl (gChain dLe dLe (gC (.int 3)) (gB bLen (gConsA (gVar 1) gNilA)) (gC (.int 5))))) (gBl (gNotIn (gIx (gVar 1) (gNeg (gC (.int 2)))) (gLst (gConsA (gC (.str (S [109, 111, 115, 116]))) (gConsA (gC (.str (S [108, 101, 97, 115, 116]))) gNilA))))) [some (.str (S l)), some (.list W), none, none, none] = .ok (!isW w2) := by
      simp -implicitDefEqProofs [hbl, c3, c5, hi2, hiw]
    cases hk : isW w2 with
    | false =>
      rw [hk] at t3
      rw [seq_rt (by rw [if_of t3]; rfl)]
      simp [outR]
    | true =>
      rw [hk] at t3
      rw [seq_nx (by rw [if_of t3]; rfl)]
      have hcp := comp_of (vs := [3]) (f := aName 3) (t := gYes) (e := gFn 2 f__law_number_in (gConsA (gVar 3) (gConsA (gC (.int 50)) gNilA))) (gi := gItA (gSl (gVar 1) gNoP (gPart (gNeg (gC (.int 2)))))) (ρ := [some (.str (S l)), some (.list W), none, none, none]) init strW numD
        (by simp -implicitDefEqProofs [dSl, hc2, itemsA]) (lim5 (by omega)) (fun w hw' => ⟨_, rfl, rfl, by
          have := q50 (w := w) (by have := hb w (by simp [hw']); omega)
          have : f__law_number_in [strW w, .int 50] = if nOk 50 2 w = true then .ok (.int (numV w)) else .ok .none := this
          unfold numD
          cases hn : nOk 50 2 w <;> rw [hn] at this <;> simp -implicitDefEqProofs [this]⟩)
      rw [seq_nx (set_of hcp)]
      show outR (gSeq _ _ [some (.str (S l)), some (.list W), some (.list (init.map numD)), none, none]) = _
      have hni := none_in init
      have f4 : gFn 2 f__law_number_in (gConsA (gIx (gVar 1) (gNeg (gC (.int 1)))) (gConsA (gC (.int 2000)) gNilA)) [some (.str (S l)), some (.list W), some (.list (init.map numD)), none, none] = if nOk 2000 4 w1 = true then .ok (.int (numV w1)) else .ok .none := by
        simp -implicitDefEqProofs [hi1, n1]
      cases h1 : nOk 2000 4 w1 with
      | false =>
        rw [h1] at f4
        rw [seq_nx (set_of f4)]
        show outR (gSeq _ _ [some (.str (S l)), some (.list W), some (.list (init.map numD)), none, some .none]) = _
        have t5 : gOrT (gBl (gIn (gC .none) (gVar 2))) (gBl (gIsN (gVar 4) (gC .none))) [some (.str (S l)), some (.list W), some (.list (init.map numD)), none, some .none] = .ok true := by
          cases ha : init.all (nOk 50 2) with
          | true => rw [ha] at hni; simp -implicitDefEqProofs [hni, isN_n, isN_i]
          | false => rw [ha] at hni; simp -implicitDefEqProofs [hni, isN_n, isN_i]
        rw [seq_rt (by rw [if_of t5]; rfl)]
        simp [outR]
      | true =>
        rw [h1] at f4
        rw [seq_nx (set_of f4)]
        show outR (gSeq _ _ [some (.str (S l)), some (.list W), some (.list (init.map numD)), none, some (.int (numV w1))]) = _
        have t5 : gOrT (gBl (gIn (gC .none) (gVar 2))) (gBl (gIsN (gVar 4) (gC .none))) [some (.str (S l)), some (.list W), some (.list (init.map numD)), none, some (.int (numV w1))] = .ok (!init.all (nOk 50 2)) := by
          cases ha : init.all (nOk 50 2) with
          | true => rw [ha] at hni; simp -implicitDefEqProofs [hni, isN_n, isN_i]
          | false => rw [ha] at hni; simp -implicitDefEqProofs [hni, isN_n, isN_i]
        cases ha : init.all (nOk 50 2) with
        | false =>
          rw [ha] at t5
          rw [seq_rt (by rw [if_of t5]; rfl)]
          simp [outR]
        | true =>
          rw [ha] at t5
          rw [seq_nx (by rw [if_of t5]; rfl)]
          have hm : init.map numD = init.map fun w => .int (numV w) := List.map_congr_left fun w hw' => by
            unfold numD
            rw [if_pos (List.all_eq_true.mp ha w hw')]
          rw [hm]
          simp -implicitDefEqProofs [hi2, outR, rowD]
          try rfl
  · rw [if_neg h3]
    have hbl : bLen [.list ((words l).map strW)] = .ok (.int ((words l).length : Nat)) := by
      show O.ok (PyData.int (List.length _ : Nat)) = _
      rw [List.length_map]
    have t3 : gOrT (gNotT (gBl (gChain dLe dLe (gC (.int 3)) (gB bLen (gConsA (gVar 1) gNilA)) (gC (.int 5))))) (gBl (gNotIn (gIx (gVar 1) (gNeg (gC (.int 2)))) (gLst (gConsA (gC (.str (S [109, 111, 115, 116]))) (gConsA (gC (.str (S [108, 101, 97, 115, 116]))) gNilA))))) [some (.str (S l)), some (.list ((words l).map strW)), none, none, none] = .ok true := by
      generalize (words l).length = n at h3 hbl
      by_cases c3 : (3 : Int) ≤ (n : Nat)
      · have c5 : ¬ ((n : Nat) : Int) ≤ 5 := by omega
        simp -implicitDefEqProofs [hbl, c3, c5]
      · simp -implicitDefEqProofs [hbl, c3]
    rw [seq_rt (by rw [if_of t3]; rfl)]
    rfl
end K02

set_option Elab.async false
set_option linter.all false
set_option maxRecDepth 100000
namespace K02
open PySem PySem.Spec L2 Fn
section
variable {P : Program} {w : World} {K : PySem.W.Frag} {mg : Str → Option Value} {base : Heap} {cls xc : Nat → Addr}
theorem okX_read (T : Top K mg xc cls) : OkAt P w K mg base cls xc "read" ["text"] 1 3 f_readX :=
  okAt_of T.d_read sc_read g_readX [] fun f cdv A outer s H E F0 hr => ⟨_, (pss_cons (ps_if (pt_not (pt_truth (pe_callB call_isi (by rfl) T.n_isinstance bt_isinstance (pa_cons (pv 0) (pa_cons (pe_bltn (v := .ty "str") (by rfl) T.n_str bt_str rfl) pa_nil))) (by intro _; rfl))) (pss_one (ps_raiseO rfl (takes_of rfl rfl rfl rfl) T.e_BadText (by rfl))) pss_nil)
      (pss_cons (ps_set (i := 1) sc_read.nd rfl (by first | exact Or.inl rfl | exact Or.inr rfl) (pe_split (pv 0) pe_str))
      (pss_cons (ps_if (PW.pt (pw_or (pt_not (pt_chain op_le op_le pe_int (pe_callB call_len (by rfl) T.n_len bt_len (pa_cons (pv 1) pa_nil)) (pe_op op_addAll (pe_globI (by rfl) T.i_MOST_UNKNOWNS) pe_int))) (pw_or1 (pt_not (pt_truth (pe_callO (ok_is_word T) hr (by decide) (by rfl) (takes_of rfl rfl rfl rfl) (pa_cons (pe_ix ix_seq (pv 1) (pe_un un_neg pe_int) (fun _ _ => rfl)) pa_nil)) (by intro _; rfl)))))) (pss_one (ps_raiseO rfl (takes_of rfl rfl rfl rfl) T.e_BadText (by rfl))) pss_nil)
      (pss_cons (ps_setLcX (i := 2) (own := [("part", 3)]) (te := fun E => tCallS (spF K cls xc 2 f_number_read) (WE fun cls d _ H => E cls d H) (tCons (tVar 3) (tCons (tC (.int 50)) tNil))) rfl rfl (takes_of rfl rfl rfl rfl) rfl sc_read.nd rfl rfl (sw_true rfl rfl rfl (by decide +kernel)) (pi_any (pe_slice sl_all (pv 1) po_none (po_some (pe_un un_neg pe_int)))) (blkOk_by (N := ["text", "parts", "numbers", "part"]) (sc := defScope st_read) (own := [("part", 3)]) (by decide +kernel)) (fun _ _ _ _ _ _ => (pg_name (i := 3) sc_read.nd rfl (by first | exact Or.inl rfl | exact Or.inr rfl))) (fun _ _ _ _ _ _ E hx => (pe_callOX (ok_number_read T) hr (by decide) (by rfl) hx (pa_cons (pv 3) (pa_cons (pe_globI (by rfl) T.i_GREATEST_NUMBER) pa_nil)))))
      (pss_one (ps_ret (pe_tup (pa_cons (pe_callTy call_tuple_of (by rfl) T.n_tuple bt_tuple (pa_cons (pv 2) pa_nil)) (pa_cons (pe_ix ix_seq (pv 1) (pe_un un_neg pe_int) (fun _ _ => rfl)) (pa_cons (pe_callO (ok_number_read T) hr (by decide) (by rfl) (takes_of rfl rfl rfl rfl) (pa_cons (pe_ix ix_seq (pv 1) (pe_un un_neg pe_int) (fun _ _ => rfl)) (pa_cons (pe_globI (by rfl) T.i_GREATEST_BOUND) pa_nil))) pa_nil)))))))))),
    (fs_seq (own1 := []) (fs_if (own' := []) (ft_not (ft_truth (fe_isi kit_str (fe_var rfl)))) (fs_raise (n := 6) rfl rfl) fs_next)
      (fs_seq (own1 := []) (fs_set ((fo_split (fe_var rfl) (fe_str " ")).fe gSplit_list) rfl)
      (fs_seq (own1 := []) (fs_if (own' := []) (ft_or (ft_not (ft_test (fe_chain opf_le opf_le (fe_int 3) (fe_callB cf_len (fa_cons (fe_var rfl) fa_nil)) (fe_op opf_add (fe_int (3)) (fe_int 2))))) (ft_not (ft_truth (fe_call rfl (fa_cons (fe_op opf_ix (fe_var rfl) (fe_un unf_neg (fe_int 2))) fa_nil))))) (fs_raise (n := 6) rfl rfl) fs_next)
      (fs_seq (own1 := []) (fs_set ((fo_compX (vs := [3]) (fi_any (fe_slice (fe_var rfl) fp_none (fp_some (fe_un unf_neg (fe_int 2))))) (fc_name rfl rfl) (fun E => fe_call rfl (fa_cons (fe_var rfl) (fa_cons (fe_int 50) fa_nil)))).fe gCompX_list) rfl)
      (fs_ret (fe_tup (fa_cons (fe_callB cf_tup (fa_cons (fe_var rfl) fa_nil)) (fa_cons (fe_op opf_ix (fe_var rfl) (fe_un unf_neg (fe_int 2))) (fa_cons (fe_call rfl (fa_cons (fe_op opf_ix (fe_var rfl) (fe_un unf_neg (fe_int 1))) (fa_cons (fe_int (2000)) fa_nil))) fa_nil)))))))))⟩
end
end K02

set_option Elab.async false
set_option linter.all false
set_option maxRecDepth 100000
namespace K02
open PySem PySem.Spec L2 Fn
abbrev st__law_refused : Stmt := topS 25
theorem sc__law_refused : FnScope ["_law_text_here", "e"] ["_law_text_here"] (defScope st__law_refused) := ⟨rfl, rfl, rfl, by decide +kernel, rfl, by decide +kernel, by decide +kernel⟩
def isX : O PyData → O PyData
  | .ex n => if n = 6 then .ok (.bool true) else .bad
  | _ => .bad
def f__law_refused (ds : List PyData) : O PyData := isX (f_readX ds)
theorem isX_ok {P : PyData → Prop} {E : Nat → Prop} : ∀ {o : O PyData}, OPost P E (isX o) → o = .ex 6 ∧ P (.bool true)
  | .ex n, h => by
    have h : OPost P E (if n = 6 then .ok (.bool true) else .bad) := h
    by_cases e : n = 6
    · rw [if_pos e] at h
      exact ⟨by rw [e], h⟩
    · rw [if_neg e] at h
      exact h.elim
  | .ok _, h => h.elim
  | .bad, h => h.elim
section
variable {P : Program} {w : World} {K : PySem.W.Frag} {mg : Str → Option Value} {base : Heap} {cls xc : Nat → Addr}
theorem ok__law_refused (T : Top K mg xc cls) (R : RefN K mg xc 6) : OkAt P w K mg base cls xc "_law_refused" ["_law_text_here"] 1 6 f__law_refused := by
  obtain ⟨f, fd, F, m, b⟩ := T.d__law_refused
  refine ⟨f, fd, F.okX sc__law_refused (fun vs H Q E h => ?_) (fun cdv A outer s H vs Q E hr hsp => ?_), m, F.kp, b⟩
  · obtain ⟨F0, ds, _, r, hn, _⟩ := h
    rw [r.length]; exact hn
  · refine ⟨_, pss_cons (ps_try_as (i := 1) rfl rfl sc__law_refused.nd rfl rfl ⟨rfl, by decide, .inl T.e_BadText.g⟩ (takes_of rfl rfl rfl rfl)
      (fun W pn xe tk _ => pss_one (ps_expr (pe_callT (cxOf (L2.CX P w) P w K mg base ["_law_text_here", "e"] "_law_refused" (defScope st__law_refused) f cdv A outer s H E) pn xe (okX_read T) hr (by decide) (by rfl) tk (pa_cons (pv 0) pa_nil))))
      (fun a oe cls d pn hz hf => pss_guard (p := cls = Value.ref (xc 6) ∧ d = none) fun hp =>
        pss_cons (ps_if (PW.pt (pw_or (pt_isE (cxOf (L2.CX P w) P w K mg base ["_law_text_here", "e"] "_law_refused" (defScope st__law_refused) f cdv A outer s H E) a pn (i := 1) R.x1 (zc_of hp hz) hf T.n_isinstance (by rfl) (pv 1) (pe_glob (v := .ref (xc 2)) (by rfl) T.e_BadPoint.g rfl)) (pw_or (pt_isE (cxOf (L2.CX P w) P w K mg base ["_law_text_here", "e"] "_law_refused" (defScope st__law_refused) f cdv A outer s H E) a pn (i := 1) R.x1 (zc_of hp hz) hf T.n_isinstance (by rfl) (pv 1) (pe_glob (v := .ref (xc 3)) (by rfl) T.e_BadBox.g rfl)) (pw_or1 (pt_isE (cxOf (L2.CX P w) P w K mg base ["_law_text_here", "e"] "_law_refused" (defScope st__law_refused) f cdv A outer s H E) a pn (i := 1) R.x1 (zc_of hp hz) hf T.n_isinstance (by rfl) (pv 1) (pe_glob (v := .ref (xc 4)) (by rfl) T.e_BadWeights.g rfl)))))) (pss_one (ps_ret pe_bl)) pss_nil)
        (pss_cons (ps_if (PW.pt (pw_or (pt_isE (cxOf (L2.CX P w) P w K mg base ["_law_text_here", "e"] "_law_refused" (defScope st__law_refused) f cdv A outer s H E) a pn (i := 1) R.x1 (zc_of hp hz) hf T.n_isinstance (by rfl) (pv 1) (pe_glob (v := .ref (xc 5)) (by rfl) T.e_NoTurn.g rfl)) (pw_or1 (pt_isE (cxOf (L2.CX P w) P w K mg base ["_law_text_here", "e"] "_law_refused" (defScope st__law_refused) f cdv A outer s H E) a pn (i := 1) R.x1 (zc_of hp hz) hf T.n_isinstance (by rfl) (pv 1) (pe_glob (v := .ref (xc 1)) (by rfl) T.e_BadProblem.g rfl))))) (pss_one (ps_ret pe_bl)) pss_nil)
        (pss_one (ps_ret (pe_and (pe_isE (cxOf (L2.CX P w) P w K mg base ["_law_text_here", "e"] "_law_refused" (defScope st__law_refused) f cdv A outer s H E) a pn (i := 1) R.x1 (zc_of hp hz) hf T.n_isinstance (by rfl) (pv 1) (pe_glob (v := .ref (xc 0)) (by rfl) T.e_CutError.g rfl))
          (pe_one (pe_isE (cxOf (L2.CX P w) P w K mg base ["_law_text_here", "e"] "_law_refused" (defScope st__law_refused) f cdv A outer s H E) a pn (i := 1) R.x1 (zc_of hp hz) hf T.n_isinstance (by rfl) (pv 1) (pe_bltn (v := .ty "ValueError") (by rfl) R.nV (by decide +kernel) rfl))))))))) (pss_one (ps_ret pe_bl)), ?_⟩
    obtain ⟨F0, ds, sF, r, hn, q⟩ := hsp
    obtain ⟨d0, rfl⟩ : ∃ d0, ds = [d0] := by
      match ds, hn with
      | [d0], _ => exact ⟨d0, rfl⟩
    obtain ⟨v0, rfl, y0⟩ : ∃ v0, vs = [v0] ∧ Rep K cls F0 v0 d0 := by
      cases r with
      | cons r0 r =>
        cases r
        exact ⟨_, rfl, r0⟩
    obtain ⟨e, q⟩ := isX_ok q
    refine ⟨v0, rfl, F0, [_], sF, (.cons y0 .nil), rfl, ?_⟩
    rw [e]
    intro H2 h2
    refine ⟨true, R.em, fun _ a ha => ⟨⟨rfl, rfl⟩, ?_⟩, fun z => by cases z⟩
    refine isT_rd rfl (fun _ h => h) (R.k 2 (by decide)) (isT_rd rfl (fun _ h => h) (R.k 3 (by decide)) (isT_rd rfl (fun _ h => h) (R.k 4 (by decide)) ?_))
    refine isT_rd rfl (fun _ h => h) (R.k 5 (by decide)) (isT_rd rfl (fun _ h => h) (R.k 1 (by decide)) ?_)
    refine isE_rd rfl (fun _ h => h) (R.k 0 (by decide)) ?_
    refine ⟨true, rfl, ?_⟩
    rw [if_pos rfl]
    refine isE_rd rfl (fun _ h => h) R.kV ?_
    exact q _ H2 F0 ⟨Same.refl _, h2, sF.trans h2, fun _ _ z => .inl z⟩ (.bl true)
end
end K02

set_option Elab.async false
set_option linter.all false
set_option maxRecDepth 100000
namespace K02
open PySem PySem.Spec L2 Fn
section
variable {P : Program} {w : World} {K : PySem.W.Frag} {mg : Str → Option Value} {base : Heap} {cls xc : Nat → Addr}
abbrev st_law : Stmt := topS 26
theorem sc_law : FnScope ["_law_script", "_law_many", "_law_numbers", "_law_k", "_law_last", "_law_row", "_law_words", "_law_number", "_law_told", "_law_kind", "_law_text_here", "_law_due", "_law_found"] ["_law_script"] (defScope st_law) := ⟨rfl, rfl, rfl, by decide +kernel, rfl, by decide +kernel, by decide +kernel⟩

def g_law : Rho → R :=
    (gSeq (gSet 1 (gAdd (gC (.int 1)) (gMod (gFn 2 f__law_cell_at (gConsA (gVar 0) (gConsA (gC (.int 0)) gNilA))) (gC (.int 3)))))
    (gSeq (gSet 2 (gComp [3] (aName 3) gYes (gSub' (gMod (gFn 2 f__law_cell_at (gConsA (gVar 0) (gConsA (gAdd (gC (.int 1)) (gVar 3)) gNilA))) (gC (.int 101))) (gC (.int 50))) (gRng1 (gConsA (gVar 1) gNilA))))
    (gSeq (gSet 4 (gFn 2 f__law_cell_at (gConsA (gVar 0) (gConsA (gC (.int 4)) gNilA))))
    (gSeq (gSet 5 (gTup (gConsA (gB bTup (gConsA (gVar 2) gNilA)) (gConsA (gIx (gLst (gConsA (gC (.str "most")) (gConsA (gC (.str "least")) gNilA))) (gMod (gVar 4) (gC (.int 2)))) (gConsA (gSub' (gMod (gFdiv (gVar 4) (gC (.int 2))) (gC (.int 4001))) (gC (.int 2000))) gNilA)))))
    (gSeq (gSet 6 (gAdd (gComp [7] (aName 7) gYes (gB bStr (gConsA (gVar 7) gNilA)) (gItA (gVar 2))) (gLst (gConsA (gIx (gVar 5) (gC (.int 1))) (gConsA (gB bStr (gConsA (gIx (gVar 5) (gC (.int 2))) gNilA)) gNilA)))))
    (gSeq (gSet 8 (gFn 1 f_shown (gConsA (gVar 5) gNilA)))
    (gSeq (gIfS (gOrT (gNotT (gTru (gIsi "str" (gVar 8)))) (gBl (gNe (gVar 8) (gStr dJoin (gC (.str " ")) (gVar 6))))) (gRet (gC (.bool false))) gNext)
    (gSeq (gSet 9 (gMod (gFn 2 f__law_cell_at (gConsA (gVar 0) (gConsA (gC (.int 5)) gNilA))) (gC (.int 8))))
    (gSeq (gIfS (gBl (gEq (gVar 9) (gC (.int 5)))) (gRet (gFn 1 f__law_refused (gConsA (gIx (gLst (gConsA (gC .none) (gConsA (gC (.int 5)) (gConsA (gVar 5) (gConsA (gLst (gConsA (gVar 8) gNilA)) gNilA))))) (gMod (gFdiv (gFn 2 f__law_cell_at (gConsA (gVar 0) (gConsA (gC (.int 5)) gNilA))) (gC (.int 8))) (gC (.int 4)))) gNilA))) gNext)
    (gSeq (gSet 10 (gFn 3 f__law_text (gConsA (gVar 8) (gConsA (gVar 9) (gConsA (gMod (gMul (gFn 2 f__law_cell_at (gConsA (gVar 0) (gConsA (gC (.int 6)) gNilA))) (gC (.int 48271))) (gC (.int 1000003))) gNilA)))))
    (gSeq (gSet 11 (gFn 1 f__law_read (gConsA (gVar 10) gNilA)))
    (gSeq (gIfS (gBl (gIsN (gVar 11) (gC .none))) (gRet (gFn 1 f__law_refused (gConsA (gVar 10) gNilA))) gNext)
    (gSeq (gSet 12 (gFn 1 f_readX (gConsA (gVar 10) gNilA)))
    (gSeq (gIfS (gOrT (gNotT (gTru (gIsi "tuple" (gVar 12)))) (gOrT (gBl (gNe (gB bLen (gConsA (gVar 12) gNilA)) (gC (.int 3)))) (gOrT (gNotT (gTru (gIsi "tuple" (gIx (gVar 12) (gC (.int 0)))))) (gBl (gNe (gVar 12) (gVar 11)))))) (gRet (gC (.bool false))) gNext)
    (gRet (gAndV (gFn 1 f__law_whole (gConsA (gIx (gVar 12) (gC (.int 2))) gNilA)) (gEq (gComp [7] (aName 7) (gNotT (gTru (gFn 1 f__law_whole (gConsA (gVar 7) gNilA)))) (gVar 7) (gItA (gIx (gVar 12) (gC (.int 0))))) (gLst gNilA))))))))))))))))))
def f_law : List PyData → O PyData := fnG 13 g_law
theorem ok_law (T : Top K mg xc cls) (R : RefN K mg xc 6) {f : Addr} {fd : FuncData} (F : Fun K "law" "law" st_law f fd) (hg : ∀ ns : List Int, ns.length ≤ 63 → f_law [D.ro (ns.map PyData.int)] = .ok (.bool true)) : FnOk P w K mg base (L2.CX P w) 7 f fd ["_law_script"] (spLaw K) :=
  law_fn (cls := cls) (xc := xc) F sc_law g_law [] (fun cdv A outer s H E F0 hr => ⟨_, (pss_cons (ps_set (i := 1) sc_law.nd rfl (by first | exact Or.inl rfl | exact Or.inr rfl) (pe_op op_addAll pe_int (pe_op op_mod (pe_callO (ok__law_cell_at T) hr (by decide) (by rfl) (takes_of rfl rfl rfl rfl) (pa_cons (pv 0) (pa_cons pe_int pa_nil))) pe_int)))
      (pss_cons (ps_setLc (i := 2) (own := [("_law_k", 3)]) rfl sc_law.nd rfl rfl (sw_true rfl rfl rfl (by decide +kernel)) (pi_range1 (by rfl) T.n_range (pa_cons (pv 1) pa_nil)) (blkOk_by (N := ["_law_script", "_law_many", "_law_numbers", "_law_k", "_law_last", "_law_row", "_law_words", "_law_number", "_law_told", "_law_kind", "_law_text_here", "_law_due", "_law_found"]) (sc := defScope st_law) (own := [("_law_k", 3)]) (by decide +kernel)) (fun _ _ _ _ _ => (pg_name (i := 3) sc_law.nd rfl (by first | exact Or.inl rfl | exact Or.inr rfl))) (fun _ _ _ _ _ => pts_nil) (fun _ _ _ _ _ => (pe_op op_sub (pe_op op_mod (pe_callO (ok__law_cell_at T) hr (by decide) (by rfl) takes0 (pa_cons (pv 0) (pa_cons (pe_op op_addAll pe_int (pv 3)) pa_nil))) pe_int) pe_int)))
      (pss_cons (ps_set (i := 4) sc_law.nd rfl (by first | exact Or.inl rfl | exact Or.inr rfl) (pe_callO (ok__law_cell_at T) hr (by decide) (by rfl) (takes_of rfl rfl rfl rfl) (pa_cons (pv 0) (pa_cons pe_int pa_nil))))
      (pss_cons (ps_set (i := 5) sc_law.nd rfl (by first | exact Or.inl rfl | exact Or.inr rfl) (pe_tup (pa_cons (pe_callTy call_tuple_of (by rfl) T.n_tuple bt_tuple (pa_cons (pv 2) pa_nil)) (pa_cons (pe_ix ix_seq (pe_lst (pa_cons pe_str (pa_cons pe_str pa_nil))) (pe_op op_mod (pv 4) pe_int) (fun _ _ => rfl)) (pa_cons (pe_op op_sub (pe_op op_mod (pe_op op_fdivW (pv 4) pe_int) pe_int) pe_int) pa_nil)))))
      (pss_cons (ps_set (i := 6) sc_law.nd rfl (by first | exact Or.inl rfl | exact Or.inr rfl) (pe_op op_addAll (pe_lc (own := [("_law_number", 7)]) rfl sc_law.nd (pi_any (pv 2)) (blkOk_by (N := ["_law_script", "_law_many", "_law_numbers", "_law_k", "_law_last", "_law_row", "_law_words", "_law_number", "_law_told", "_law_kind", "_law_text_here", "_law_due", "_law_found"]) (sc := defScope st_law) (own := [("_law_number", 7)]) (by decide +kernel)) (fun _ _ _ _ _ => (pg_name (i := 7) sc_law.nd rfl (by first | exact Or.inl rfl | exact Or.inr rfl))) (fun _ _ _ _ _ => pts_nil) (fun _ _ _ _ _ => (pe_callTy call_str_int (by rfl) T.n_str bt_str (pa_cons (pv 7) pa_nil)))) (pe_lst (pa_cons (pe_ix ix_seq (pv 5) pe_int (fun _ _ => rfl)) (pa_cons (pe_callTy call_str_int (by rfl) T.n_str bt_str (pa_cons (pe_ix ix_seq (pv 5) pe_int (fun _ _ => rfl)) pa_nil)) pa_nil)))))
      (pss_cons (ps_set (i := 8) sc_law.nd rfl (by first | exact Or.inl rfl | exact Or.inr rfl) (pe_callO (ok_shown T) hr (by decide) (by rfl) (takes_of rfl rfl rfl rfl) (pa_cons (pv 5) pa_nil)))
      (pss_cons (ps_if (PW.pt (pw_or (pt_not (pt_truth (pe_callB call_isi (by rfl) T.n_isinstance bt_isinstance (pa_cons (pv 8) (pa_cons (pe_bltn (v := .ty "str") (by rfl) T.n_str bt_str rfl) pa_nil))) (by intro _; rfl))) (pw_or1 (pt_cmpR (op_neAll hr.units) (pv 8) (pe_join pe_str (pv 6)) (nomark _))))) (pss_one (ps_ret pe_bl)) pss_nil)
      (pss_cons (ps_set (i := 9) sc_law.nd rfl (by first | exact Or.inl rfl | exact Or.inr rfl) (pe_op op_mod (pe_callO (ok__law_cell_at T) hr (by decide) (by rfl) (takes_of rfl rfl rfl rfl) (pa_cons (pv 0) (pa_cons pe_int pa_nil))) pe_int))
      (pss_cons (ps_if (pt_cmpR (op_eqAll hr.units) (pv 9) pe_int (nomark _)) (pss_one (ps_ret (pe_callO (ok__law_refused T R) hr (by decide) (by rfl) (takes_of rfl rfl rfl rfl) (pa_cons (pe_ix ix_seq (pe_lst (pa_cons pe_non (pa_cons pe_int (pa_cons (pv 5) (pa_cons (pe_lst (pa_cons (pv 8) pa_nil)) pa_nil))))) (pe_op op_mod (pe_op op_fdivW (pe_callO (ok__law_cell_at T) hr (by decide) (by rfl) (takes_of rfl rfl rfl rfl) (pa_cons (pv 0) (pa_cons pe_int pa_nil))) pe_int) pe_int) (fun _ _ => rfl)) pa_nil)))) pss_nil)
      (pss_cons (ps_set (i := 10) sc_law.nd rfl (by first | exact Or.inl rfl | exact Or.inr rfl) (pe_callO (ok__law_text T) hr (by decide) (by rfl) (takes_of rfl rfl rfl rfl) (pa_cons (pv 8) (pa_cons (pv 9) (pa_cons (pe_op op_mod (pe_op op_mulAll (pe_callO (ok__law_cell_at T) hr (by decide) (by rfl) (takes_of rfl rfl rfl rfl) (pa_cons (pv 0) (pa_cons pe_int pa_nil))) pe_int) pe_int) pa_nil)))))
      (pss_cons (ps_set (i := 11) sc_law.nd rfl (by first | exact Or.inl rfl | exact Or.inr rfl) (pe_callO (ok__law_read T) hr (by decide) (by rfl) (takes_of rfl rfl rfl rfl) (pa_cons (pv 10) pa_nil)))
      (pss_cons (ps_if (pt_cmpR op_isN (pv 11) pe_non (nomark _)) (pss_one (ps_ret (pe_callO (ok__law_refused T R) hr (by decide) (by rfl) (takes_of rfl rfl rfl rfl) (pa_cons (pv 10) pa_nil)))) pss_nil)
      (pss_cons (ps_set (i := 12) sc_law.nd rfl (by first | exact Or.inl rfl | exact Or.inr rfl) (pe_callO (okX_read T) hr (by decide) (by rfl) (takes_of rfl rfl rfl rfl) (pa_cons (pv 10) pa_nil)))
      (pss_cons (ps_if (PW.pt (pw_or (pt_not (pt_truth (pe_callB call_isi (by rfl) T.n_isinstance bt_isinstance (pa_cons (pv 12) (pa_cons (pe_bltn (v := .ty "tuple") (by rfl) T.n_tuple bt_tuple rfl) pa_nil))) (by intro _; rfl))) (pw_or (pt_cmpR (op_neAll hr.units) (pe_callB call_len (by rfl) T.n_len bt_len (pa_cons (pv 12) pa_nil)) pe_int (nomark _)) (pw_or (pt_not (pt_truth (pe_callB call_isi (by rfl) T.n_isinstance bt_isinstance (pa_cons (pe_ix ix_seq (pv 12) pe_int (fun _ _ => rfl)) (pa_cons (pe_bltn (v := .ty "tuple") (by rfl) T.n_tuple bt_tuple rfl) pa_nil))) (by intro _; rfl))) (pw_or1 (pt_cmpR (op_neAll hr.units) (pv 12) (pv 11) (nomark _))))))) (pss_one (ps_ret pe_bl)) pss_nil)
      (pss_one (ps_ret (pe_and (pe_callO (ok__law_whole T) hr (by decide) (by rfl) (takes_of rfl rfl rfl rfl) (pa_cons (pe_ix ix_seq (pv 12) pe_int (fun _ _ => rfl)) pa_nil)) (pe_one (pe_cmpR (op_eqAll hr.units) (pe_lc (own := [("_law_number", 7)]) rfl sc_law.nd (pi_any (pe_ix ix_seq (pv 12) pe_int (fun _ _ => rfl))) (blkOk_by (N := ["_law_script", "_law_many", "_law_numbers", "_law_k", "_law_last", "_law_row", "_law_words", "_law_number", "_law_told", "_law_kind", "_law_text_here", "_law_due", "_law_found"]) (sc := defScope st_law) (own := [("_law_number", 7)]) (by decide +kernel)) (fun _ _ _ _ _ => (pg_name (i := 7) sc_law.nd rfl (by first | exact Or.inl rfl | exact Or.inr rfl))) (fun _ _ _ _ _ => (pts_one (pt_not (pt_truth (pe_callO (ok__law_whole T) hr (by decide) (by rfl) takes0 (pa_cons (pv 7) pa_nil)) (by intro _; rfl))))) (fun _ _ _ _ _ => (pv 7))) (pe_lst pa_nil) (nomark _)))))))))))))))))))),
    (fs_seq (own1 := []) (fs_set (fe_op opf_add (fe_int 1) (fe_op opf_mod (fe_call rfl (fa_cons (fe_var rfl) (fa_cons (fe_int 0) fa_nil))) (fe_int 3))) rfl)
      (fs_seq (own1 := []) (fs_set (fe_comp (vs := [3]) (fi_range1 (fa_cons (fe_var rfl) fa_nil)) (fc_name rfl rfl) aName_ex ft_yes (fe_op opf_sub (fe_op opf_mod (fe_call rfl (fa_cons (fe_var rfl) (fa_cons (fe_op opf_add (fe_int 1) (fe_var rfl)) fa_nil))) (fe_int 101)) (fe_int 50))) rfl)
      (fs_seq (own1 := []) (fs_set (fe_call rfl (fa_cons (fe_var rfl) (fa_cons (fe_int 4) fa_nil))) rfl)
      (fs_seq (own1 := []) (fs_set (fe_tup (fa_cons (fe_callB cf_tup (fa_cons (fe_var rfl) fa_nil)) (fa_cons (fe_op opf_ix (fe_lst (fa_cons (fe_str "most") (fa_cons (fe_str "least") fa_nil))) (fe_op opf_mod (fe_var rfl) (fe_int 2))) (fa_cons (fe_op opf_sub (fe_op opf_mod (fe_op opf_fdiv (fe_var rfl) (fe_int 2)) (fe_int 4001)) (fe_int 2000)) fa_nil)))) rfl)
      (fs_seq (own1 := []) (fs_set (fe_op opf_add (fe_comp (vs := [7]) (fi_any (fe_var rfl)) (fc_name rfl rfl) aName_ex ft_yes (fe_callB cf_str (fa_cons (fe_var rfl) fa_nil))) (fe_lst (fa_cons (fe_op opf_ix (fe_var rfl) (fe_int 1)) (fa_cons (fe_callB cf_str (fa_cons (fe_op opf_ix (fe_var rfl) (fe_int 2)) fa_nil)) fa_nil)))) rfl)
      (fs_seq (own1 := []) (fs_set (fe_call rfl (fa_cons (fe_var rfl) fa_nil)) rfl)
      (fs_seq (own1 := []) (fs_if (own' := []) (ft_or (ft_not (ft_truth (fe_isi kit_str (fe_var rfl)))) (ft_test (fe_op opf_ne (fe_var rfl) (fe_join (fe_str " ") (fe_var rfl))))) (fs_ret (fe_bool false)) fs_next)
      (fs_seq (own1 := []) (fs_set (fe_op opf_mod (fe_call rfl (fa_cons (fe_var rfl) (fa_cons (fe_int 5) fa_nil))) (fe_int 8)) rfl)
      (fs_seq (own1 := []) (fs_if (own' := []) (ft_test (fe_op opf_eq (fe_var rfl) (fe_int 5))) (fs_ret (fe_call rfl (fa_cons (fe_op opf_ix (fe_lst (fa_cons fe_none (fa_cons (fe_int 5) (fa_cons (fe_var rfl) (fa_cons (fe_lst (fa_cons (fe_var rfl) fa_nil)) fa_nil))))) (fe_op opf_mod (fe_op opf_fdiv (fe_call rfl (fa_cons (fe_var rfl) (fa_cons (fe_int 5) fa_nil))) (fe_int 8)) (fe_int 4))) fa_nil))) fs_next)
      (fs_seq (own1 := []) (fs_set (fe_call rfl (fa_cons (fe_var rfl) (fa_cons (fe_var rfl) (fa_cons (fe_op opf_mod (fe_op opf_mul (fe_call rfl (fa_cons (fe_var rfl) (fa_cons (fe_int 6) fa_nil))) (fe_int 48271)) (fe_int 1000003)) fa_nil)))) rfl)
      (fs_seq (own1 := []) (fs_set (fe_call rfl (fa_cons (fe_var rfl) fa_nil)) rfl)
      (fs_seq (own1 := []) (fs_if (own' := []) (ft_test (fe_op opf_isN (fe_var rfl) fe_none)) (fs_ret (fe_call rfl (fa_cons (fe_var rfl) fa_nil))) fs_next)
      (fs_seq (own1 := []) (fs_set (fe_call rfl (fa_cons (fe_var rfl) fa_nil)) rfl)
      (fs_seq (own1 := []) (fs_if (own' := []) (ft_or (ft_not (ft_truth (fe_isi kit_tuple (fe_var rfl)))) (ft_or (ft_test (fe_op opf_ne (fe_callB cf_len (fa_cons (fe_var rfl) fa_nil)) (fe_int 3))) (ft_or (ft_not (ft_truth (fe_isi kit_tuple (fe_op opf_ix (fe_var rfl) (fe_int 0))))) (ft_test (fe_op opf_ne (fe_var rfl) (fe_var rfl)))))) (fs_ret (fe_bool false)) fs_next)
      (fs_ret (fe_and (fe_call rfl (fa_cons (fe_op opf_ix (fe_var rfl) (fe_int 2)) fa_nil)) (fe_op opf_eq (fe_comp (vs := [7]) (fi_any (fe_op opf_ix (fe_var rfl) (fe_int 0))) (fc_name rfl rfl) aName_ex (ft_not (ft_truth (fe_call rfl (fa_cons (fe_var rfl) fa_nil)))) (fe_var rfl)) (fe_lst fa_nil))))))))))))))))))⟩) hg
end
end K02

set_option Elab.async false
set_option linter.all false
set_option maxRecDepth 100000
namespace K02
open PySem PySem.Spec L2 Fn SX
def cell (ns : List Int) (k : Int) : Int := ((if ns = [] then 0 else ns.getD (k % ns.length).toNat 0) + 17 * k) * 48271 % 1000003
theorem cell_ge (ns : List Int) (k : Int) : 0 ≤ cell ns k := Int.emod_nonneg _ (by decide)
theorem cell_lt (ns : List Int) (k : Int) : cell ns k < 1000003 := Int.emod_lt_of_pos _ (by decide)
abbrev scr (ns : List Int) : PyData := D.ro (ns.map PyData.int)
theorem cell_ok (ns : List Int) (k : Int) (hk : 0 ≤ k) : f__law_cell_at [scr ns, .int k] = .ok (.int (cell ns k)) := by
  have e : rho0 3 [scr ns, PyData.int k] = [some (scr ns), some (.int k), none] := rfl
  unfold f__law_cell_at fnG
  rw [e]
  unfold g__law_cell_at cell
  by_cases h : ns = []
  · subst h
    simp [mulOk_l, mulOk_r]
  · have hl : (0 : Int) < ns.length := by
      have := List.length_pos_iff.mpr h
      omega
    have h1 : 0 ≤ k % (ns.length : Int) := Int.emod_nonneg _ (by omega)
    have h2 : k % (ns.length : Int) < ns.length := Int.emod_lt_of_pos _ hl
    have h4 : dIx (scr ns) (.int (k % ns.length)) = .ok (.int (ns.getD (k % ns.length).toNat 0)) := dIx_r _ _ (by rw [atI_map, atI_getD 0 h1 h2]; rfl)
    have hl' : 0 < ns.length := List.length_pos_iff.mpr h
    simp [mulOk_l, mulOk_r, h4, hl', h, -List.getD_eq_getElem?_getD]
theorem str_len_neg : ∀ n : Nat, n < 2001 → (Str.ofString (toString (-(n : Int)))).length ≤ 5 := by decide +kernel
theorem str_len_pos : ∀ n : Nat, n < 2001 → (Str.ofString (toString (n : Int))).length ≤ 5 := by decide +kernel
theorem str_len {i : Int} (h1 : -2000 ≤ i) (h2 : i ≤ 2000) : ∃ l, bStr [.int i] = .ok (.str (S l)) ∧ l.length ≤ 5 := by
  have e : bStr [.int i] = if i.natAbs.log2 < 1920 then .ok (.str (Str.ofString (toString i))) else .bad := rfl
  have hl : i.natAbs.log2 < 1920 := by
    have : i.natAbs < 2 ^ 11 := by omega
    have := Nat.log2_lt (n := i.natAbs) (k := 11)
    by_cases z : i.natAbs = 0
    · rw [z]; decide
    · have := (this z).mpr (by omega)
      omega
  rw [e, if_pos hl]
  refine ⟨(Str.ofString (toString i)).cps.toList, by rw [S_tl], ?_⟩
  have hx : (Str.ofString (toString i)).cps.toList.length = (Str.ofString (toString i)).length := by simp [Str.length]
  rw [hx]
  by_cases z : 0 ≤ i
  · obtain ⟨n, rfl⟩ := Int.eq_ofNat_of_zero_le z
    exact str_len_pos n (by omega)
  · obtain ⟨n, hn⟩ := Int.eq_ofNat_of_zero_le (show 0 ≤ -i by omega)
    have : i = -(n : Int) := by omega
    rw [this]
    exact str_len_neg n (by omega)
end K02

set_option Elab.async false
set_option linter.all false
set_option maxRecDepth 100000
namespace K02
open PySem PySem.Spec L2 Fn SX
theorem dAdd_S {a b : List Nat} (h : a.length + b.length ≤ 100000) : dAdd (.str (S a)) (.str (S b)) = .ok (.str (S (a ++ b))) := by
  have e : dAdd (.str (S a)) (.str (S b)) = if (S a).length + (S b).length ≤ lim then .ok (.str (S a ++ S b)) else .bad := rfl
  rw [e, S_len, S_len, if_pos (lim5 h), S_cat]
theorem cut_to (l : List Nat) (p : Nat) : cutS (S l) none (some (p : Int)) = S (l.take p) := by
  unfold cutS
  rw [S_len, HT.sIx_nat, HT.sIx_none]
  show S ((l.drop 0).take (min p l.length - 0)) = _
  congr 1
  rw [List.drop_zero, Nat.sub_zero]
  by_cases h : p ≤ l.length
  · rw [Nat.min_eq_left h]
  · rw [Nat.min_eq_right (by omega), List.take_of_length_le (Nat.le_refl _), List.take_of_length_le (by omega)]
theorem cut_from (l : List Nat) (p : Nat) : cutS (S l) (some (p : Int)) none = S (l.drop p) := by
  unfold cutS
  rw [S_len, HT.sIx_nat, HT.sIx_none]
  show S ((l.drop (min p l.length)).take (l.length - min p l.length)) = _
  congr 1
  by_cases h : p ≤ l.length
  · rw [Nat.min_eq_left h, List.take_of_length_le (by rw [List.length_drop]; omega)]
  · rw [Nat.min_eq_right (by omega), Nat.sub_self, List.take_zero, List.drop_eq_nil_of_le (by omega)]
theorem joinL_len : ∀ (ps : List (List Nat)) (N : Nat), (∀ p ∈ ps, p.length ≤ N) → (TL.joinL [32] ps).length ≤ ps.length * (N + 1)
  | [], N, _ => Nat.zero_le _
  | [p], N, h => by
    have := h p List.mem_cons_self
    show p.length ≤ 1 * (N + 1)
    omega
  | p :: q :: r, N, h => by
    have h1 := h p List.mem_cons_self
    have h2 := joinL_len (q :: r) N fun x hx => h x (List.mem_cons_of_mem _ hx)
    show (p ++ ([32] ++ TL.joinL [32] (q :: r))).length ≤ _
    have e : (p :: q :: r).length * (N + 1) = (q :: r).length * (N + 1) + (N + 1) := Nat.succ_mul _ _
    have e1 : ([32] : List Nat).length = 1 := rfl
    rw [List.length_append, List.length_append, e, e1]
    omega
theorem getD_len {ls : List (List Nat)} {N : Nat} (h : ∀ p ∈ ls, p.length ≤ N) {i : Nat} (hi : i < ls.length) : ∃ w, ls[i]? = some w ∧ w.length ≤ N := ⟨ls[i], List.getElem?_eq_getElem hi, h _ (List.getElem_mem hi)⟩
theorem join_ok {ws : List (List Nat)} {N : Nat} (h : ∀ p ∈ ws, p.length ≤ N) (hn : ws.length * (N + 1) ≤ 90000) : dJoin (S [32]) (.list (ws.map strW)) = .ok (.str (S (TL.joinL [32] ws))) := by
  have e : ws.map strW = (ws.map S).map PyData.str := by rw [List.map_map]; rfl
  rw [e]
  show (match strsOf ((ws.map S).map PyData.str) with
    | some ys => if (List.map (fun x : Str => x.length) ys).sum + List.length ys * (S [32]).length ≤ limJ then O.ok (PyData.str (Txt.join (S [32]) ys)) else .bad
    | none => .bad) = _
  rw [strsOf_map]
  dsimp only
  have hb : ((ws.map S).map (·.length)).sum + (ws.map S).length * (S [32]).length ≤ ws.length * (N + 1) := by
    have e1 : (S [32]).length = 1 := rfl
    rw [e1, List.length_map]
    clear hn e
    induction ws with
    | nil => simp
    | cons w ws ih =>
      have h1 := h w List.mem_cons_self
      have h2 := ih fun p hp => h p (List.mem_cons_of_mem _ hp)
      rw [List.map_cons, List.map_cons, List.sum_cons, S_len, List.length_cons, Nat.succ_mul, Nat.succ_mul]
      omega
  rw [if_pos (limJ_ge (by omega)), join_S]
theorem spl_ne : ∀ (l acc : List Nat), TL.spl [32] 0 acc l ≠ []
  | [], acc => by rw [TL.spl_nil]; simp
  | c :: l, acc => by
    cases q : TL.pre [32] (c :: l) with
    | true => rw [TL.spl_hit q]; simp
    | false => rw [TL.spl_miss q]; exact spl_ne l _
end K02

set_option Elab.async false
set_option linter.all false
set_option maxRecDepth 100000
namespace K02
open PySem PySem.Spec L2 Fn SX
def signsL : List Nat := [48, 49, 50, 51, 52, 53, 54, 55, 56, 57, 45, 32, 43, 46, 10, 9, 101, 109]
theorem s_signs : ("0123456789- +.\n\tem" : Str) = S signsL := by decide +kernel
theorem text_ok (odd : ∀ c : Int, 0 ≤ c → ∃ l, f__law_odd [.int c] = .ok (.str (S l)) ∧ l.length ≤ 20000) {l : List Nat} (h0 : 0 < l.length) (hl : l.length ≤ 100) {k c : Int} (hc : 0 ≤ c) : ∃ l', f__law_text [.str (S l), .int k, .int c] = .ok (.str (S l')) ∧ l'.length ≤ 20000 := by
  have e : rho0 8 [PyData.str (S l), .int k, .int c] = [some (.str (S l)), some (.int k), some (.int c), none, none, none, none, none] := rfl
  unfold f__law_text fnG
  rw [e]
  unfold g__law_text
  rw [s_signs, s_b]
  have hb := bLen_S (l := l) (by omega)
  have hlim := lim5 (n := l.length) (by omega)
  have l97 : Nat.log2 97 < 9000 := by decide
  obtain ⟨p, hp, hp1⟩ := nat_of (c := c) (m := (l.length : Int) + 1) (by omega)
  have hpos : (0 : Int) < (l.length : Int) + 1 := by omega
  rw [seq_nx (ρ' := [some (.str (S l)), some (.int k), some (.int c), some (.int p), none, none, none, none]) (by simp -implicitDefEqProofs [hb, hpos, hp])]
  by_cases k1 : k = 1
  · subst k1
    obtain ⟨j, hj, hj1⟩ := nat_of (c := c / 97) (m := 18) (by decide)
    have hj18 : j < signsL.length := by show j < 18; omega
    have hix : dIx (.str (S signsL)) (.int (j : Int)) = .ok (.str (S [signsL[j]])) := by
      show (if (S signsL).length ≤ lim then (match atI (S signsL).cps.toList (j : Int) with | some x => O.ok (PyData.str ⟨#[x]⟩) | none => .bad) else .bad) = _
      rw [if_pos (by rw [S_len]; exact lim5 (by decide))]
      have a : atI (S signsL).cps.toList (j : Int) = some signsL[j] := atI_nat (List.getElem?_eq_getElem hj18)
      rw [a]
    have a1 : dAdd (.str (S (l.take p))) (.str (S [signsL[j]])) = .ok (.str (S (l.take p ++ [signsL[j]]))) := dAdd_S (by rw [List.length_take]; show _ + 1 ≤ _; omega)
    have a2 : dAdd (.str (S (l.take p ++ [signsL[j]]))) (.str (S (l.drop p))) = .ok (.str (S (l.take p ++ [signsL[j]] ++ l.drop p))) := dAdd_S (by rw [List.length_append, List.length_take, List.length_drop]; show _ + 1 + _ ≤ _; omega)
    refine ⟨l.take p ++ [signsL[j]] ++ l.drop p, ?_, by rw [List.length_append, List.length_append, List.length_take, List.length_drop]; show _ + 1 + _ ≤ _; omega⟩
    simp -implicitDefEqProofs [l97, hj, hix, dSl, S_len, hlim, cut_to, cut_from, a1, a2, outR]
  · by_cases k2 : k = 2
    · subst k2
      obtain ⟨j, hj, hj1⟩ := nat_of (c := c) (m := (l.length : Int)) (by omega)
      have a1 : dAdd (.str (S (l.take j))) (.str (S (l.drop (j + 1)))) = .ok (.str (S (l.take j ++ l.drop (j + 1)))) := dAdd_S (by rw [List.length_take, List.length_drop]; omega)
      have cf : cutS (S l) (some ((j : Int) + 1)) none = S (l.drop (j + 1)) := cut_from l (j + 1)
      refine ⟨l.take j ++ l.drop (j + 1), ?_, by rw [List.length_append, List.length_take, List.length_drop]; omega⟩
      simp -implicitDefEqProofs [hb, h0, hj, dSl, S_len, hlim, cut_to, cf, a1, outR]
    · by_cases k3 : k = 3
      · subst k3
        have hs : dSplit (S l) (.str (S [32])) = .ok (.list ((words l).map strW)) := split_ok (by omega)
        have hwl := words_len l
        have hwb := words_bd l
        have hw0 : 0 < (words l).length := List.length_pos_iff.mpr (spl_ne l [])
        generalize words l = ws at hs hwl hwb hw0
        have hbl : bLen [.list (ws.map strW)] = .ok (.int (ws.length : Nat)) := by
          show O.ok (PyData.int (List.length _ : Nat)) = _
          rw [List.length_map]
        obtain ⟨i, hi, hi1⟩ := nat_of (c := c) (m := (ws.length : Int)) (by omega)
        obtain ⟨j, hj, hj1⟩ := nat_of (c := c / 97) (m := (ws.length : Int)) (by omega)
        obtain ⟨wi, wi1, wi2⟩ := getD_len hwb (i := i) (by omega)
        obtain ⟨wj, wj1, wj2⟩ := getD_len hwb (i := j) (by omega)
        have x1 : dIx (.list (ws.map strW)) (.int (i : Int)) = .ok (strW wi) := dIx_l _ _ (atI_nat (by rw [List.getElem?_map, wi1]; rfl))
        have x2 : dIx (.list (ws.map strW)) (.int (j : Int)) = .ok (strW wj) := dIx_l _ _ (atI_nat (by rw [List.getElem?_map, wj1]; rfl))
        have ix : ∀ {n m : Nat}, m < n → ixN n (m : Int) = some m := fun {n m} h => by
          unfold ixN
          rw [if_pos (by omega), if_pos (by omega)]
          rfl
        have y1 := ix (n := ws.length) (m := i) (by omega)
        have y2 := ix (n := ws.length) (m := j) (by omega)
        have hm : ((ws.map strW).set i (strW wj)).set j (strW wi) = ((ws.set i wj).set j wi).map strW := by rw [List.map_set, List.map_set]
        have hin : ∀ p ∈ (ws.set i wj).set j wi, p.length ≤ l.length := fun p hp => by
          rcases List.mem_or_eq_of_mem_set hp with z | z
          · rcases List.mem_or_eq_of_mem_set z with z | z
            · exact hwb p z
            · rw [z]; exact wj2
          · rw [z]; exact wi2
        have hln : ((ws.set i wj).set j wi).length = ws.length := by rw [List.length_set, List.length_set]
        have hmul : ws.length * (l.length + 1) ≤ 101 * 101 := Nat.mul_le_mul (by omega) (by omega)
        have hjn := join_ok hin (by rw [hln]; omega)
        have hjl := joinL_len _ _ hin
        rw [hln] at hjl
        refine ⟨TL.joinL [32] ((ws.set i wj).set j wi), ?_, by omega⟩
        have xl : ((ws.map strW).set i (strW wj)).length = ws.length := by rw [List.length_set, List.length_map]
        have y2' : ixN ((ws.map strW).set i (strW wj)).length (j : Int) = some j := by rw [xl]; exact y2
        have y1' : ixN (ws.map strW).length (i : Int) = some i := by rw [List.length_map]; exact y1
        rw [seq_nx (ρ' := [some (.str (S l)), some (.int 3), some (.int c), some (.int p), none, none, none, none]) (by simp -implicitDefEqProofs []), seq_nx (ρ' := [some (.str (S l)), some (.int 3), some (.int c), some (.int p), none, none, none, none]) (by simp -implicitDefEqProofs [])]
        have t3 : gBl (gEq (gVar 1) (gC (.int 3))) [some (.str (S l)), some (.int 3), some (.int c), some (.int p), none, none, none, none] = .ok true := by simp -implicitDefEqProofs []
        rw [seq_rt (d := .str (S (TL.joinL [32] ((ws.set i wj).set j wi)))) (by
          rw [if_of t3, if_pos rfl]
          rw [seq_nx (ρ' := [some (.str (S l)), some (.int 3), some (.int c), some (.int p), some (.list (ws.map strW)), none, none, none]) (by simp -implicitDefEqProofs [hs])]
          rw [seq_nx (ρ' := [some (.str (S l)), some (.int 3), some (.int c), some (.int p), some (.list (ws.map strW)), some (.int i), none, none]) (by simp -implicitDefEqProofs [hbl, hw0, hi])]
          rw [seq_nx (ρ' := [some (.str (S l)), some (.int 3), some (.int c), some (.int p), some (.list (ws.map strW)), some (.int i), some (.int j), none]) (by simp -implicitDefEqProofs [hbl, hw0, l97, hj])]
          rw [seq_nx (ρ' := [some (.str (S l)), some (.int 3), some (.int c), some (.int p), some (.list (ws.map strW)), some (.int i), some (.int j), some (strW wi)]) (by simp -implicitDefEqProofs [x1])]
          rw [seq_nx (ρ' := [some (.str (S l)), some (.int 3), some (.int c), some (.int p), some (.list ((ws.map strW).set i (strW wj))), some (.int i), some (.int j), some (strW wi)]) (by
            show (gIx (gVar 4) (gVar 6) _).go _ = _
            rw [show gIx (gVar 4) (gVar 6) [some (.str (S l)), some (.int 3), some (.int c), some (.int p), some (.list (ws.map strW)), some (.int i), some (.int j), some (strW wi)] = .ok (strW wj) by simp -implicitDefEqProofs [x2]]
            show (match ixN (ws.map strW).length (i : Int) with | some j => R.nx _ | none => .bad) = _
            rw [y1']
            rfl)]
          rw [seq_nx (ρ' := [some (.str (S l)), some (.int 3), some (.int c), some (.int p), some (.list (((ws.set i wj).set j wi).map strW)), some (.int i), some (.int j), some (strW wi)]) (by
            show (match ixN ((ws.map strW).set i (strW wj)).length (j : Int) with | some j => R.nx _ | none => .bad) = _
            rw [y2', ← hm]
            rfl)]
          show (gStr dJoin (gC (.str (S [32]))) (gVar 4) _).go _ = _
          rw [show gStr dJoin (gC (.str (S [32]))) (gVar 4) [some (.str (S l)), some (.int 3), some (.int c), some (.int p), some (.list (((ws.set i wj).set j wi).map strW)), some (.int i), some (.int j), some (strW wi)] = .ok (.str (S (TL.joinL [32] ((ws.set i wj).set j wi)))) from hjn]
          rfl)]
        rfl
      · by_cases k4 : k = 4
        · subst k4
          obtain ⟨l', h1, h2⟩ := odd c hc
          exact ⟨l', by simp -implicitDefEqProofs [h1, outR], h2⟩
        · exact ⟨l, by simp -implicitDefEqProofs [k1, k2, k3, k4, outR], by omega⟩
end K02

set_option Elab.async false
set_option linter.all false
set_option maxRecDepth 100000
set_option maxHeartbeats 1000000
namespace K02
open PySem PySem.Spec L2 Fn SX
theorem fold_size (b : Array Nat) : ∀ (n : Nat) (a : Array Nat), ((List.replicate n b).foldl (· ++ ·) a).size = a.size + n * b.size
  | 0, a => by simp
  | n + 1, a => by
    rw [List.replicate_succ, List.foldl_cons, fold_size b n, Array.size_append, Nat.succ_mul]
    omega
theorem mul_len {x : Str} (h : x.length = 1) : (Txt.mul x 4400).length = 4400 := by
  unfold Txt.mul
  rw [if_neg (by decide)]
  have e : ((4400 : Int) == 1 || x.length == 0) = false := by rw [h]; decide
  rw [if_neg (by rw [e]; exact Bool.false_ne_true)]
  show ((List.replicate (4400 : Int).toNat x.cps).foldl (· ++ ·) #[]).size = 4400
  rw [fold_size]
  have : x.cps.size = 1 := h
  rw [this]
  rfl
theorem dMulS_ok {x : Str} (h : x.length = 1) : dMulS (.str x) (.int 4400) = .ok (.str (Txt.mul x 4400)) := by
  show (if mulSOk x 4400 = true then O.ok (PyData.str (Txt.mul x 4400)) else .bad) = _
  rw [if_pos]
  unfold mulSOk
  rw [h]
  decide
theorem dAdd_str {x y : Str} (h : x.length + y.length ≤ 100000) : dAdd (.str x) (.str y) = .ok (.str (x ++ y)) := by
  have e : dAdd (.str x) (.str y) = if x.length + y.length ≤ lim then .ok (.str (x ++ y)) else .bad := rfl
  rw [e, if_pos (lim5 h)]
theorem cat_len (x y : Str) : (x ++ y).length = x.length + y.length := by
  have := S_cat x.cps.toList y.cps.toList
  rw [S_tl, S_tl] at this
  rw [this, S_len, List.length_append]
  simp [Str.length]
def lits1 : List Str := ["", " ", "1 most", "most 3", "1 2 3 4 most 5", "1 more 2", "51 most 0", "-51 most 0", "1 most 2001"]
def lits2 : List Str := ["1 least -2001", "-0 most 1", "01 most 1", "1 most -0", "1  most 2", " 1 most 2", "1 most 2 "]
def lits3 : List Str := ["+1 most 2", "1 MOST 2", "1 most 2.0", "1\tmost 2", "1 most 2\n", "--1 most 2"]
theorem lits_len : ∀ x ∈ lits1 ++ lits2 ++ lits3, x.length ≤ 20 := by decide +kernel
def gLits : List Str → Rho → O (List PyData)
  | [] => gNilA
  | x :: xs => gConsA (gC (.str x)) (gLits xs)
theorem gLits_ok : ∀ (xs : List Str) (ρ : Rho), gLits xs ρ = .ok (xs.map PyData.str)
  | [], _ => rfl
  | x :: xs, ρ => by
    show (gLits xs ρ).bind _ = _
    rw [gLits_ok xs ρ]
    rfl
theorem lst_lits {xs : List Str} (h : xs.length ≤ 1000) (ρ : Rho) : Fn.gLst (gLits xs) ρ = .ok (.list (xs.map PyData.str)) := by
  show (gLits xs ρ).bind _ = _
  rw [gLits_ok]
  show (if (xs.map PyData.str).length ≤ lim then _ else _) = _
  rw [if_pos (lim_ge (by rw [List.length_map]; exact h))]
theorem add_lits {xs ys : List Str} {g : Rho → O PyData} {ρ : Rho} (h1 : gVar 1 ρ = .ok (.list (xs.map PyData.str))) (h2 : g ρ = .ok (.list (ys.map PyData.str))) (h : xs.length + ys.length ≤ 1000) : gAdd (gVar 1) g ρ = .ok (.list ((xs ++ ys).map PyData.str)) := by
  have e : dAdd (.list (xs.map PyData.str)) (.list (ys.map PyData.str)) = if (xs.map PyData.str).length + (ys.map PyData.str).length ≤ lim then .ok (.list (xs.map PyData.str ++ ys.map PyData.str)) else .bad := rfl
  rw [if_pos (lim_ge (by rw [List.length_map, List.length_map]; exact h))] at e
  show (gVar 1 ρ).bind (fun d => (g ρ).bind fun e => noEx (dAdd d e)) = _
  rw [h1, h2]
  show noEx (dAdd _ _) = _
  rw [e, List.map_append]
  rfl
theorem var1 (a : Option PyData) (d : PyData) : gVar 1 [a, some d] = .ok d := rfl
def twoS (u9 u8 : Str) : Prop := ∀ ρ, Fn.gLst (gConsA (gAdd (gMulS (gC (.str "9")) (gC (.int 4400))) (gC (.str " most 0"))) (gConsA (gAdd (gC (.str "1 least -")) (gMulS (gC (.str "8")) (gC (.int 4400)))) gNilA)) ρ = .ok (.list ([u9, u8].map PyData.str))
theorem two_ok : ∃ u9 u8, twoS u9 u8 ∧ u9.length ≤ 20000 ∧ u8.length ≤ 20000 := by
  have n9 : ("9" : Str).length = 1 := by decide +kernel
  have n8 : ("8" : Str).length = 1 := by decide +kernel
  have m9 := dMulS_ok n9
  have m8 := dMulS_ok n8
  have q9 := mul_len n9
  have q8 := mul_len n8
  have k1 : (" most 0" : Str).length = 7 := by decide +kernel
  have k2 : ("1 least -" : Str).length = 9 := by decide +kernel
  generalize Txt.mul "9" 4400 = t9 at m9 q9
  generalize Txt.mul "8" 4400 = t8 at m8 q8
  have a9 := dAdd_str (x := t9) (y := " most 0") (by omega)
  have a8 := dAdd_str (x := "1 least -") (y := t8) (by omega)
  have z9 := cat_len t9 " most 0"
  have z8 := cat_len "1 least -" t8
  generalize t9 ++ " most 0" = u9 at a9 z9
  generalize ("1 least -" : Str) ++ t8 = u8 at a8 z8
  refine ⟨u9, u8, fun ρ => ?_, by omega, by omega⟩
  simp -implicitDefEqProofs [m9, m8, a9, a8]
theorem odd_ok (c : Int) (hc : 0 ≤ c) : ∃ l, f__law_odd [.int c] = .ok (.str (S l)) ∧ l.length ≤ 20000 := by
  have e : rho0 2 [PyData.int c] = [some (.int c), none] := rfl
  unfold f__law_odd fnG
  rw [e]
  obtain ⟨u9, u8, h2, h9, h8⟩ := two_ok
  have key : g__law_odd [some (.int c), none] = gRet (gIx (gVar 1) (gMod (gVar 0) (gC (.int 24)))) [some (.int c), some (.list ((lits1 ++ lits2 ++ lits3 ++ [u9, u8]).map PyData.str))] := by
    show gSeq (gSet 1 (Fn.gLst (gLits lits1))) (gSeq (gSet 1 (gAdd (gVar 1) (Fn.gLst (gLits lits2)))) (gSeq (gSet 1 (gAdd (gVar 1) (Fn.gLst (gLits lits3)))) (gSeq (gSet 1 (gAdd (gVar 1) (Fn.gLst (gConsA (gAdd (gMulS (gC (.str "9")) (gC (.int 4400))) (gC (.str " most 0"))) (gConsA (gAdd (gC (.str "1 least -")) (gMulS (gC (.str "8")) (gC (.int 4400)))) gNilA))))) (gRet (gIx (gVar 1) (gMod (gVar 0) (gC (.int 24)))))))) _ = _
    rw [seq_nx (ρ' := [some (.int c), some (.list ((lits1).map PyData.str))]) (set_of (lst_lits (xs := lits1) (by decide) _))]
    rw [seq_nx (ρ' := [some (.int c), some (.list ((lits1 ++ lits2).map PyData.str))]) (set_of (add_lits (xs := lits1) (ys := lits2) (var1 _ _) (lst_lits (by decide) _) (by decide)))]
    rw [seq_nx (ρ' := [some (.int c), some (.list ((lits1 ++ lits2 ++ lits3).map PyData.str))]) (set_of (add_lits (xs := lits1 ++ lits2) (ys := lits3) (var1 _ _) (lst_lits (by decide) _) (by decide)))]
    rw [seq_nx (ρ' := [some (.int c), some (.list ((lits1 ++ lits2 ++ lits3 ++ [u9, u8]).map PyData.str))]) (set_of (add_lits (xs := lits1 ++ lits2 ++ lits3) (ys := [u9, u8]) (var1 _ _) (h2 _) (show (lits1 ++ lits2 ++ lits3).length + 2 ≤ 1000 by decide)))]
  rw [key]
  obtain ⟨d, hd, hx⟩ := pick ((lits1 ++ lits2 ++ lits3 ++ [u9, u8]).map PyData.str) c 24 (by rw [List.length_map]; rfl) (by decide)
  obtain ⟨x, hxm, rfl⟩ := List.mem_map.mp hd
  have hlen : x.length ≤ 20000 := by
    rcases List.mem_append.mp hxm with z | z
    · have := lits_len x z; omega
    · simp only [List.mem_cons, List.not_mem_nil, or_false] at z
      rcases z with rfl | rfl
      · exact h9
      · exact h8
  refine ⟨x.cps.toList, ?_, by have e1 : x.cps.toList.length = x.length := by simp [Str.length]
                               rw [e1]; exact hlen⟩
  rw [S_tl]
  generalize (lits1 ++ lits2 ++ lits3 ++ [u9, u8]).map PyData.str = W at hx
  simp -implicitDefEqProofs [hx, outR]
end K02

set_option Elab.async false
set_option linter.all false
set_option maxRecDepth 100000
namespace K02
open PySem PySem.Spec L2 Fn SX
def tl (k : Int) : List Nat := (Str.ofString (toString k)).cps.toList
theorem bstr_ok {k : Int} (h1 : -2000 ≤ k) (h2 : k ≤ 2000) : bStr [.int k] = .ok (strW (tl k)) ∧ (tl k).length ≤ 5 := by
  obtain ⟨l, e1, e2⟩ := str_len h1 h2
  have e : bStr [.int k] = if k.natAbs.log2 < 1920 then .ok (.str (Str.ofString (toString k))) else .bad := rfl
  rw [e] at e1
  have hl : k.natAbs.log2 < 1920 := by
    by_cases z : k.natAbs.log2 < 1920
    · exact z
    · rw [if_neg z] at e1; cases e1
  rw [if_pos hl] at e1
  have e3 : Str.ofString (toString k) = S l := by injection e1 with z; injection z
  have e4 : tl k = l := by unfold tl; rw [e3]
  rw [e, if_pos hl, e3, e4]
  exact ⟨rfl, e2⟩
theorem join_pos : ∀ {ps : List (List Nat)}, 2 ≤ ps.length → 0 < (TL.joinL [32] ps).length
  | p :: q :: r, _ => by
    show 0 < (p ++ ([32] ++ TL.joinL [32] (q :: r))).length
    rw [List.length_append, List.length_append]
    show 0 < _ + (1 + _)
    omega
theorem joinD {ps : List (List Nat)} (h : ∀ p ∈ ps, p.length ≤ 5) (hn : ps.length ≤ 5) : dJoin (S [32]) (.list (ps.map strW)) = .ok (.str (S (TL.joinL [32] ps))) := join_ok h (by omega)
def rowR (ks : List Int) (wl : List Nat) (b : Int) : PyData := .tuple [.tuple (ks.map PyData.int), strW wl, .int b]
def partsR (ks : List Int) (wl : List Nat) (b : Int) : List (List Nat) := ks.map tl ++ [wl, tl b]
section
variable {ks : List Int} {wl : List Nat} {b : Int} (h3 : ks.length ≤ 3) (hk : ∀ k ∈ ks, -50 ≤ k ∧ k ≤ 50) (hw : wl.length ≤ 5) (hb1 : -2000 ≤ b) (hb2 : b ≤ 2000)
include h3 hk hw hb1 hb2
theorem parts_bd : (∀ p ∈ partsR ks wl b, p.length ≤ 5) ∧ (partsR ks wl b).length ≤ 5 := by
  unfold partsR
  refine ⟨fun p hp => ?_, by rw [List.length_append, List.length_map]; show _ + 2 ≤ 5; omega⟩
  rcases List.mem_append.mp hp with z | z
  · obtain ⟨k, hk1, rfl⟩ := List.mem_map.mp z
    obtain ⟨a1, a2⟩ := hk k hk1
    exact (bstr_ok (k := k) (by omega) (by omega)).2
  · simp only [List.mem_cons, List.not_mem_nil, or_false] at z
    rcases z with rfl | rfl
    · exact hw
    · exact (bstr_ok hb1 hb2).2
theorem add_parts : dAdd (.list (ks.map fun k => strW (tl k))) (.list [strW wl, strW (tl b)]) = .ok (.list ((partsR ks wl b).map strW)) := by
  have e : dAdd (.list (ks.map fun k => strW (tl k))) (.list [strW wl, strW (tl b)]) = if (ks.map fun k => strW (tl k)).length + [strW wl, strW (tl b)].length ≤ lim then .ok (.list (ks.map (fun k => strW (tl k)) ++ [strW wl, strW (tl b)])) else .bad := rfl
  rw [e, if_pos (lim_ge (by rw [List.length_map]; show _ + 2 ≤ _; omega))]
  unfold partsR
  rw [List.map_append, List.map_map]
  rfl
theorem shown_ok : f_shown [rowR ks wl b] = .ok (.str (S (TL.joinL [32] (partsR ks wl b)))) := by
  have e : rho0 5 [rowR ks wl b] = [some (rowR ks wl b), none, none, none, none] := rfl
  unfold f_shown fnG
  rw [e]
  unfold g_shown
  rw [s_b]
  obtain ⟨p1, p2⟩ := parts_bd h3 hk hw hb1 hb2
  have hj := joinD p1 p2
  have ha := add_parts h3 hk hw hb1 hb2
  have hbs := (bstr_ok hb1 hb2).1
  have hA : gAsg (aTup (aCons (aName 1) (aCons (aName 2) (aCons (aName 3) aNil)))) (gVar 0) [some (rowR ks wl b), none, none, none, none] = .nx [some (rowR ks wl b), some (.tuple (ks.map PyData.int)), some (strW wl), some (.int b), none] := rfl
  rw [seq_nx hA]
  have hc := comp_of (vs := [4]) (f := aName 4) (t := gYes) (e := gB bStr (gConsA (gVar 4) gNilA)) (gi := gItA (gVar 1)) (ρ := [some (rowR ks wl b), some (.tuple (ks.map PyData.int)), some (strW wl), some (.int b), none]) ks PyData.int (fun k => strW (tl k)) (by simp [itemsA]) (lim_ge (by omega)) (fun k hk1 => ⟨_, rfl, rfl, by
    obtain ⟨a1, a2⟩ := hk k hk1
    have := (bstr_ok (k := k) (by omega) (by omega)).1
    simp -implicitDefEqProofs [this]⟩)
  generalize TL.joinL [32] (partsR ks wl b) = l at hj
  generalize (partsR ks wl b).map strW = W at hj ha
  simp -implicitDefEqProofs [hc, hbs, ha, hj, outR]
end
theorem refused_no {d : PyData} (h : bIsi "str" d = .ok (.bool false)) : f__law_refused [d] = .ok (.bool true) := by
  have e : rho0 4 [d] = [some d, none, none, none] := rfl
  have : f_readX [d] = .ex 6 := by
    unfold f_readX fnG
    rw [e]
    unfold g_readX
    have t : gNotT (gTru (gIsi "str" (gVar 0))) [some d, none, none, none] = .ok true := by simp -implicitDefEqProofs [h]
    rw [seq_ex (by rw [if_of t]; rfl)]
    rfl
  unfold f__law_refused
  rw [this]
  rfl
theorem readV_w {l : List Nat} {r : List Int × List Nat × Int} (h : readV l = some r) : isW r.2.1 = true := by
  unfold readV at h
  split at h
  · split at h
    · split at h
      · rename_i z
        cases h
        exact z.1
      · cases h
    · cases h
  · cases h
theorem nice_row {r : List Int × List Nat × Int} (h : isW r.2.1 = true) : Nice 2 (rowD r) := nice_tup fun d hd => by
  simp only [List.mem_cons, List.not_mem_nil, or_false] at hd
  rcases hd with rfl | rfl | rfl
  · exact nice_tup nice_mapI
  · refine (nice_str ?_).up (by decide)
    unfold isW at h
    rw [Bool.or_eq_true] at h
    rcases h with z | z
    · rw [of_decide_eq_true z]; decide +kernel
    · rw [of_decide_eq_true z]; decide +kernel
  · exact (nice_int _).up (by decide)
theorem whole_ok (k : Int) : f__law_whole [.int k] = .ok (.bool true) := by
  have e : rho0 1 [PyData.int k] = [some (.int k)] := rfl
  unfold f__law_whole fnG
  rw [e]
  unfold g__law_whole
  simp -implicitDefEqProofs [outR]
theorem refused_t {t : List Nat} (h : f_readX [.str (S t)] = .ex 6) : f__law_refused [.str (S t)] = .ok (.bool true) := by
  unfold f__law_refused
  rw [h]
  rfl
theorem law_true (ns : List Int) (_ : ns.length ≤ 63) : f_law [D.ro (ns.map PyData.int)] = .ok (.bool true) := by
  obtain ⟨m, hm, hm3⟩ : ∃ m : Nat, 1 + cell ns 0 % 3 = m ∧ m ≤ 3 := ⟨(1 + cell ns 0 % 3).toNat, by omega, by omega⟩
  have c0 := cell_ok ns 0 (by decide)
  have c4 := cell_ok ns 4 (by decide)
  have c5 := cell_ok ns 5 (by decide)
  have c6 := cell_ok ns 6 (by decide)
  have e : rho0 13 [scr ns] = [some (scr ns), none, none, none, none, none, none, none, none, none, none, none, none] := rfl
  unfold f_law fnG
  rw [e]
  unfold g_law
  rw [seq_nx (ρ' := [some (scr ns), some (.int (m : Nat)), none, none, none, none, none, none, none, none, none, none, none]) (by simp -implicitDefEqProofs [c0, hm])]
  obtain ⟨ks, t1, t2, t3⟩ := comp_ints (vs := [3]) (i := 3) (E := (gSub' (gMod (gFn 2 f__law_cell_at (gConsA (gVar 0) (gConsA (gAdd (gC (.int 1)) (gVar 3)) gNilA))) (gC (.int 101))) (gC (.int 50)))) (gi := (gRng1 (gConsA (gVar 1) gNilA)))
    (ρ := [some (scr ns), some (.int (m : Nat)), none, none, none, none, none, none, none, none, none, none, none]) (ds := rangeD 0 m) (fun k => -50 ≤ k ∧ k ≤ 50) (by simp [rng1_nat (show m ≤ 1000 by omega)]) (by rw [rangeD_length]; exact lim_ge (by omega)) (fun d hd => by
      obtain ⟨i, hi, rfl⟩ := rangeD_mem hd
      refine ⟨cell ns (1 + i) % 101 - 50, ?_, by omega⟩
      simp [cell_ok ns (1 + i) (by omega)])
  rw [rangeD_length] at t2
  rw [seq_nx (set_of t1)]
  show outR (gSeq _ _ [some (scr ns), some (.int (m : Nat)), some (.list (ks.map PyData.int)), none, none, none, none, none, none, none, none, none, none]) = _
  rw [seq_nx (ρ' := [some (scr ns), some (.int (m : Nat)), some (.list (ks.map PyData.int)), none, some (.int (cell ns 4)), none, none, none, none, none, none, none, none]) (by simp -implicitDefEqProofs [c4])]
  obtain ⟨wl, w1, w2⟩ : ∃ wl, dIx (.list [.str "most", .str "least"]) (.int (cell ns 4 % 2)) = .ok (strW wl) ∧ wl.length ≤ 5 := by
    obtain ⟨d, hd, hx⟩ := pick [.str "most", .str "least"] (cell ns 4) 2 rfl (by decide)
    simp only [List.mem_cons, List.not_mem_nil, or_false] at hd
    rcases hd with rfl | rfl
    · exact ⟨[109, 111, 115, 116], by rw [hx, s_most]; rfl, by decide⟩
    · exact ⟨[108, 101, 97, 115, 116], by rw [hx, s_least]; rfl, by decide⟩
  have l2 : Nat.log2 2 < 9000 := by decide
  obtain ⟨b, hb⟩ : ∃ b, b = cell ns 4 / 2 % 4001 - 2000 := ⟨_, rfl⟩
  have hb1 : -2000 ≤ b := by omega
  have hb2 : b ≤ 2000 := by omega
  have hk3 : ks.length ≤ 3 := by omega
  have s4 : (gSet 5 (gTup (gConsA (gB bTup (gConsA (gVar 2) gNilA)) (gConsA (gIx (gLst (gConsA (gC (.str "most")) (gConsA (gC (.str "least")) gNilA))) (gMod (gVar 4) (gC (.int 2)))) (gConsA (gSub' (gMod (gFdiv (gVar 4) (gC (.int 2))) (gC (.int 4001))) (gC (.int 2000))) gNilA))))) [some (scr ns), some (.int (m : Nat)), some (.list (ks.map PyData.int)), none, some (.int (cell ns 4)), none, none, none, none, none, none, none, none] = .nx [some (scr ns), some (.int (m : Nat)), some (.list (ks.map PyData.int)), none, some (.int (cell ns 4)), some (rowR ks wl b), none, none, none, none, none, none, none] := by
    unfold rowR
    simp -implicitDefEqProofs [w1, l2, hb]
  rw [seq_nx s4]
  have i1 : dIx (rowR ks wl b) (.int 1) = .ok (strW wl) := rfl
  have i2 : dIx (rowR ks wl b) (.int 2) = .ok (.int b) := rfl
  have hR : bIsi "str" (rowR ks wl b) = .ok (.bool false) := rfl
  have hsh := shown_ok hk3 t3 w2 hb1 hb2
  have hap := add_parts hk3 t3 w2 hb1 hb2
  have hbs := (bstr_ok hb1 hb2).1
  obtain ⟨pb, pl⟩ := parts_bd hk3 t3 w2 hb1 hb2
  have hjd := joinD pb pl
  have hjl := joinL_len _ _ pb
  have hjp := join_pos (ps := partsR ks wl b) (by unfold partsR; rw [List.length_append]; show 2 ≤ _ + 2; omega)
  generalize TL.joinL [32] (partsR ks wl b) = l at hsh hjd hjl hjp
  have hl30 : l.length ≤ 30 := by have : (partsR ks wl b).length * (5 + 1) ≤ 5 * 6 := Nat.mul_le_mul pl (Nat.le_refl _); omega
  generalize (partsR ks wl b).map strW = W at hap hjd
  generalize rowR ks wl b = R at i1 i2 hR hsh
  have hc := comp_of (vs := [7]) (f := aName 7) (t := gYes) (e := gB bStr (gConsA (gVar 7) gNilA)) (gi := gItA (gVar 2)) (ρ := [some (scr ns), some (.int (m : Nat)), some (.list (ks.map PyData.int)), none, some (.int (cell ns 4)), some R, none, none, none, none, none, none, none]) ks PyData.int (fun k => strW (tl k)) (by simp [itemsA]) (lim_ge (by omega)) (fun k hk1 => ⟨_, rfl, rfl, by
    obtain ⟨a1, a2⟩ := t3 k hk1
    have := (bstr_ok (k := k) (by omega) (by omega)).1
    simp -implicitDefEqProofs [this]⟩)
  have s5 : (gSet 6 (gAdd (gComp [7] (aName 7) gYes (gB bStr (gConsA (gVar 7) gNilA)) (gItA (gVar 2))) (gLst (gConsA (gIx (gVar 5) (gC (.int 1))) (gConsA (gB bStr (gConsA (gIx (gVar 5) (gC (.int 2))) gNilA)) gNilA))))) [some (scr ns), some (.int (m : Nat)), some (.list (ks.map PyData.int)), none, some (.int (cell ns 4)), some R, none, none, none, none, none, none, none] = .nx [some (scr ns), some (.int (m : Nat)), some (.list (ks.map PyData.int)), none, some (.int (cell ns 4)), some R, some (.list W), none, none, none, none, none, none] := by
    simp -implicitDefEqProofs [hc, i1, i2, hbs, hap]
  rw [seq_nx s5]
  have s6 : (gSet 8 (gFn 1 f_shown (gConsA (gVar 5) gNilA))) [some (scr ns), some (.int (m : Nat)), some (.list (ks.map PyData.int)), none, some (.int (cell ns 4)), some R, some (.list W), none, none, none, none, none, none] = .nx [some (scr ns), some (.int (m : Nat)), some (.list (ks.map PyData.int)), none, some (.int (cell ns 4)), some R, some (.list W), none, some (.str (S l)), none, none, none, none] := by
    simp -implicitDefEqProofs [hsh]
  rw [seq_nx s6]
  have isS : bIsi "str" (.str (S l)) = .ok (.bool true) := rfl
  have s7 : (gIfS (gOrT (gNotT (gTru (gIsi "str" (gVar 8)))) (gBl (gNe (gVar 8) (gStr dJoin (gC (.str " ")) (gVar 6))))) (gRet (gC (.bool false))) gNext) [some (scr ns), some (.int (m : Nat)), some (.list (ks.map PyData.int)), none, some (.int (cell ns 4)), some R, some (.list W), none, some (.str (S l)), none, none, none, none] = .nx [some (scr ns), some (.int (m : Nat)), some (.list (ks.map PyData.int)), none, some (.int (cell ns 4)), some R, some (.list W), none, some (.str (S l)), none, none, none, none] := by
    rw [s_b]
    have := dNe_S l l
    simp -implicitDefEqProofs [isS, hjd, this]
  rw [seq_nx s7]
  obtain ⟨k, hk⟩ : ∃ k, k = cell ns 5 % 8 := ⟨_, rfl⟩
  have s8 : (gSet 9 (gMod (gFn 2 f__law_cell_at (gConsA (gVar 0) (gConsA (gC (.int 5)) gNilA))) (gC (.int 8)))) [some (scr ns), some (.int (m : Nat)), some (.list (ks.map PyData.int)), none, some (.int (cell ns 4)), some R, some (.list W), none, some (.str (S l)), none, none, none, none] = .nx [some (scr ns), some (.int (m : Nat)), some (.list (ks.map PyData.int)), none, some (.int (cell ns 4)), some R, some (.list W), none, some (.str (S l)), some (.int k), none, none, none] := by
    simp -implicitDefEqProofs [c5, hk]
  rw [seq_nx s8]
  have t9 : gBl (gEq (gVar 9) (gC (.int 5))) [some (scr ns), some (.int (m : Nat)), some (.list (ks.map PyData.int)), none, some (.int (cell ns 4)), some R, some (.list W), none, some (.str (S l)), some (.int k), none, none, none] = .ok (decide (k = 5)) := by simp -implicitDefEqProofs []
  by_cases h5 : k = 5
  · rw [decide_eq_true h5] at t9
    obtain ⟨d, hd, hx⟩ := pick [.none, .int 5, R, .list [.str (S l)]] (cell ns 5 / 8) 4 rfl (by decide)
    have l8 : Nat.log2 8 < 9000 := by decide
    have hr : f__law_refused [d] = .ok (.bool true) := by
      simp only [List.mem_cons, List.not_mem_nil, or_false] at hd
      rcases hd with rfl | rfl | rfl | rfl
      · exact refused_no rfl
      · exact refused_no rfl
      · exact refused_no hR
      · exact refused_no rfl
    have rr : gRet (gFn 1 f__law_refused (gConsA (gIx (Fn.gLst (gConsA (gC .none) (gConsA (gC (.int 5)) (gConsA (gVar 5) (gConsA (Fn.gLst (gConsA (gVar 8) gNilA)) gNilA))))) (gMod (gFdiv (gFn 2 f__law_cell_at (gConsA (gVar 0) (gConsA (gC (.int 5)) gNilA))) (gC (.int 8))) (gC (.int 4)))) gNilA)) [some (scr ns), some (.int (m : Nat)), some (.list (ks.map PyData.int)), none, some (.int (cell ns 4)), some R, some (.list W), none, some (.str (S l)), some (.int k), none, none, none] = .rt (.bool true) := by
      simp -implicitDefEqProofs [c5, l8, hx, hr]
    rw [seq_rt (by rw [if_of t9, if_pos rfl]; exact rr)]
    rfl
  · rw [decide_eq_false h5] at t9
    rw [seq_nx (by rw [if_of t9]; rfl)]
    obtain ⟨t, ht, htl⟩ := text_ok odd_ok hjp (by omega) (k := k) (c := cell ns 6 * 48271 % 1000003) (Int.emod_nonneg _ (by decide))
    have hmo : mulOk (cell ns 6) 48271 = true := mulOk_r (by constructor <;> omega)
    have s10 : (gSet 10 (gFn 3 f__law_text (gConsA (gVar 8) (gConsA (gVar 9) (gConsA (gMod (gMul (gFn 2 f__law_cell_at (gConsA (gVar 0) (gConsA (gC (.int 6)) gNilA))) (gC (.int 48271))) (gC (.int 1000003))) gNilA))))) [some (scr ns), some (.int (m : Nat)), some (.list (ks.map PyData.int)), none, some (.int (cell ns 4)), some R, some (.list W), none, some (.str (S l)), some (.int k), none, none, none] = .nx [some (scr ns), some (.int (m : Nat)), some (.list (ks.map PyData.int)), none, some (.int (cell ns 4)), some R, some (.list W), none, some (.str (S l)), some (.int k), some (.str (S t)), none, none] := by
      simp -implicitDefEqProofs [c6, hmo, ht]
    rw [seq_nx s10]
    have hlr := law_read_ok htl
    have hrx := readX_ok htl
    cases hrv : readV t with
    | none =>
      rw [hrv] at hlr hrx
      have s11 : (gSet 11 (gFn 1 f__law_read (gConsA (gVar 10) gNilA))) [some (scr ns), some (.int (m : Nat)), some (.list (ks.map PyData.int)), none, some (.int (cell ns 4)), some R, some (.list W), none, some (.str (S l)), some (.int k), some (.str (S t)), none, none] = .nx [some (scr ns), some (.int (m : Nat)), some (.list (ks.map PyData.int)), none, some (.int (cell ns 4)), some R, some (.list W), none, some (.str (S l)), some (.int k), some (.str (S t)), some .none, none] := by simp -implicitDefEqProofs [hlr]
      rw [seq_nx s11]
      have hrf := refused_t hrx
      have t12 : gBl (gIsN (gVar 11) (gC .none)) [some (scr ns), some (.int (m : Nat)), some (.list (ks.map PyData.int)), none, some (.int (cell ns 4)), some R, some (.list W), none, some (.str (S l)), some (.int k), some (.str (S t)), some .none, none] = .ok true := by simp -implicitDefEqProofs [isN_n]
      have rr : gRet (gFn 1 f__law_refused (gConsA (gVar 10) gNilA)) [some (scr ns), some (.int (m : Nat)), some (.list (ks.map PyData.int)), none, some (.int (cell ns 4)), some R, some (.list W), none, some (.str (S l)), some (.int k), some (.str (S t)), some .none, none] = .rt (.bool true) := by simp -implicitDefEqProofs [hrf]
      rw [seq_rt (by rw [if_of t12, if_pos rfl]; exact rr)]
      rfl
    | some r =>
      rw [hrv] at hlr hrx
      replace hlr : f__law_read [.str (S t)] = .ok (rowD r) := hlr
      replace hrx : f_readX [.str (S t)] = .ok (rowD r) := hrx
      have hn := dNe_self (nice_row (readV_w hrv)) (by decide)
      have hN : dIsN (rowD r) .none = .ok (.bool false) := rfl
      have j0 : dIx (rowD r) (.int 0) = .ok (.tuple (r.1.map PyData.int)) := rfl
      have j2 : dIx (rowD r) (.int 2) = .ok (.int r.2.2) := rfl
      have jt : bIsi "tuple" (rowD r) = .ok (.bool true) := rfl
      have jl : bLen [rowD r] = .ok (.int 3) := rfl
      have jt0 : bIsi "tuple" (.tuple (r.1.map PyData.int)) = .ok (.bool true) := rfl
      generalize rowD r = Z at hlr hrx hn hN j0 j2 jt jl
      have s11 : (gSet 11 (gFn 1 f__law_read (gConsA (gVar 10) gNilA))) [some (scr ns), some (.int (m : Nat)), some (.list (ks.map PyData.int)), none, some (.int (cell ns 4)), some R, some (.list W), none, some (.str (S l)), some (.int k), some (.str (S t)), none, none] = .nx [some (scr ns), some (.int (m : Nat)), some (.list (ks.map PyData.int)), none, some (.int (cell ns 4)), some R, some (.list W), none, some (.str (S l)), some (.int k), some (.str (S t)), some Z, none] := by simp -implicitDefEqProofs [hlr]
      rw [seq_nx s11]
      have t12 : gBl (gIsN (gVar 11) (gC .none)) [some (scr ns), some (.int (m : Nat)), some (.list (ks.map PyData.int)), none, some (.int (cell ns 4)), some R, some (.list W), none, some (.str (S l)), some (.int k), some (.str (S t)), some Z, none] = .ok false := by simp -implicitDefEqProofs [hN]
      rw [seq_nx (by rw [if_of t12]; rfl)]
      have s13 : (gSet 12 (gFn 1 f_readX (gConsA (gVar 10) gNilA))) [some (scr ns), some (.int (m : Nat)), some (.list (ks.map PyData.int)), none, some (.int (cell ns 4)), some R, some (.list W), none, some (.str (S l)), some (.int k), some (.str (S t)), some Z, none] = .nx [some (scr ns), some (.int (m : Nat)), some (.list (ks.map PyData.int)), none, some (.int (cell ns 4)), some R, some (.list W), none, some (.str (S l)), some (.int k), some (.str (S t)), some Z, some Z] := by simp -implicitDefEqProofs [hrx]
      rw [seq_nx s13]
      have s14 : (gIfS (gOrT (gNotT (gTru (gIsi "tuple" (gVar 12)))) (gOrT (gBl (gNe (gB bLen (gConsA (gVar 12) gNilA)) (gC (.int 3)))) (gOrT (gNotT (gTru (gIsi "tuple" (gIx (gVar 12) (gC (.int 0)))))) (gBl (gNe (gVar 12) (gVar 11)))))) (gRet (gC (.bool false))) gNext) [some (scr ns), some (.int (m : Nat)), some (.list (ks.map PyData.int)), none, some (.int (cell ns 4)), some R, some (.list W), none, some (.str (S l)), some (.int k), some (.str (S t)), some Z, some Z] = .nx [some (scr ns), some (.int (m : Nat)), some (.list (ks.map PyData.int)), none, some (.int (cell ns 4)), some R, some (.list W), none, some (.str (S l)), some (.int k), some (.str (S t)), some Z, some Z] := by simp -implicitDefEqProofs [jt, jl, j0, jt0, hn]
      rw [seq_nx s14]
      have rb : r.1.length ≤ 1000 := by
        unfold readV at hrv
        split at hrv
        · rename_i z
          split at hrv
          · rename_i w1 w2 init hq
            split at hrv
            · cases hrv
              have := congrArg List.length hq
              rw [List.length_reverse] at this
              simp at this
              rw [List.length_map, List.length_reverse]
              omega
            · cases hrv
          · cases hrv
        · cases hrv
      have hcc := comp_filter (vs := [7]) (i := 7) (T := (gNotT (gTru (gFn 1 f__law_whole (gConsA (gVar 7) gNilA))))) (E := (gVar 7)) (gi := (gItA (gIx (gVar 12) (gC (.int 0))))) (ρ := [some (scr ns), some (.int (m : Nat)), some (.list (ks.map PyData.int)), none, some (.int (cell ns 4)), some R, some (.list W), none, some (.str (S l)), some (.int k), some (.str (S t)), some Z, some Z]) (ds := r.1.map PyData.int) (fun _ => false) (fun d => d) (by simp -implicitDefEqProofs [j0, itemsA]) (lim_ge (by rw [List.length_map]; exact rb)) (fun d hd => by
        obtain ⟨x, _, rfl⟩ := List.mem_map.mp hd
        simp -implicitDefEqProofs [whole_ok]) (fun d hd z => by cases z)
      rw [show (r.1.map PyData.int).filter (fun _ => false) = [] from List.filter_eq_nil_iff.mpr fun _ _ => Bool.false_ne_true] at hcc
      have ee : dEq (.list []) (.list []) = .ok (.bool true) := dEq_self (n := 1) (nice_list fun d h => absurd h List.not_mem_nil) (by decide)
      simp -implicitDefEqProofs [j2, whole_ok, hcc, ee, outR]
end K02

set_option Elab.async false
set_option linter.all false
set_option maxRecDepth 100000
set_option maxHeartbeats 0
namespace K02
open PySem PySem.Spec L2 Fn
theorem all_mk {P : Program} {w : World} {K : PySem.W.Frag} {h : Heap} {mg : Str → Option Value} {fa : Addr} (X : K.In h) (G : h.Ns mainGlobals mg) (hfa : mg "law" = some (.ref fa))
    {f0 : Addr} {od0 an0 : Option Addr} {sl0 : Array (Option Value)} {oc0 kV0 dc0 pm0 cd0 ct0 : Value}
    {f1 : Addr} {od1 an1 : Option Addr} {sl1 : Array (Option Value)} {oc1 kV1 dc1 pm1 cd1 ct1 : Value}
    {f2 : Addr} {od2 an2 : Option Addr} {sl2 : Array (Option Value)} {oc2 kV2 dc2 pm2 cd2 ct2 : Value}
    {f3 : Addr} {od3 an3 : Option Addr} {sl3 : Array (Option Value)} {oc3 kV3 dc3 pm3 cd3 ct3 : Value}
    {f4 : Addr} {od4 an4 : Option Addr} {sl4 : Array (Option Value)} {oc4 kV4 dc4 pm4 cd4 ct4 : Value}
    {f5 : Addr} {od5 an5 : Option Addr} {sl5 : Array (Option Value)} {oc5 kV5 dc5 pm5 cd5 ct5 : Value}
    {f6 : Addr} {od6 an6 : Option Addr} {sl6 : Array (Option Value)} {oc6 kV6 dc6 pm6 cd6 ct6 : Value}
    {f7 : Addr} {od7 an7 : Option Addr} {sl7 : Array (Option Value)} {oc7 kV7 dc7 pm7 cd7 ct7 : Value}
    {f8 : Addr} {od8 an8 : Option Addr} {sl8 : Array (Option Value)} {oc8 kV8 dc8 pm8 cd8 ct8 : Value}
    {f9 : Addr} {od9 an9 : Option Addr} {sl9 : Array (Option Value)} {oc9 kV9 dc9 pm9 cd9 ct9 : Value}
    {f10 : Addr} {od10 an10 : Option Addr} {sl10 : Array (Option Value)} {oc10 kV10 dc10 pm10 cd10 ct10 : Value}
    {f11 : Addr} {od11 an11 : Option Addr} {sl11 : Array (Option Value)} {oc11 kV11 dc11 pm11 cd11 ct11 : Value}
    {f12 : Addr} {od12 an12 : Option Addr} {sl12 : Array (Option Value)} {oc12 kV12 dc12 pm12 cd12 ct12 : Value}
    {x0 : Addr}
    {x1 : Addr}
    {x2 : Addr}
    {x3 : Addr}
    {x4 : Addr}
    {x5 : Addr}
    {x6 : Addr}
    {t_MOST_UNKNOWNS : _}
    {t_GREATEST_NUMBER : _}
    {t_GREATEST_BOUND : _}
    (a0 : PySem.W.nsIn K mainGlobals "is_word" = some (some (.ref f0)))
    (l0 : K.lookup f0 = some ⟨oc0, od0, .func (PySem.W.fnOf "is_word" "is_word" (defArgs (topS 12)) (defBody (topS 12)) (defScope (topS 12)) .none kV0 dc0 pm0 an0 cd0 ct0), sl0⟩)
    (c0 : PySem.W.codeIn K cd0 "is_word" = true)
    (k0 : PySem.W.keepIn K (.ref f0) = true)
    (a1 : PySem.W.nsIn K mainGlobals "shown" = some (some (.ref f1)))
    (l1 : K.lookup f1 = some ⟨oc1, od1, .func (PySem.W.fnOf "shown" "shown" (defArgs (topS 14)) (defBody (topS 14)) (defScope (topS 14)) .none kV1 dc1 pm1 an1 cd1 ct1), sl1⟩)
    (c1 : PySem.W.codeIn K cd1 "shown" = true)
    (k1 : PySem.W.keepIn K (.ref f1) = true)
    (a2 : PySem.W.nsIn K mainGlobals "read" = some (some (.ref f2)))
    (l2 : K.lookup f2 = some ⟨oc2, od2, .func (PySem.W.fnOf "read" "read" (defArgs (topS 15)) (defBody (topS 15)) (defScope (topS 15)) .none kV2 dc2 pm2 an2 cd2 ct2), sl2⟩)
    (c2 : PySem.W.codeIn K cd2 "read" = true)
    (k2 : PySem.W.keepIn K (.ref f2) = true)
    (a3 : PySem.W.nsIn K mainGlobals "number_read" = some (some (.ref f3)))
    (l3 : K.lookup f3 = some ⟨oc3, od3, .func (PySem.W.fnOf "number_read" "number_read" (defArgs (topS 16)) (defBody (topS 16)) (defScope (topS 16)) .none kV3 dc3 pm3 an3 cd3 ct3), sl3⟩)
    (c3 : PySem.W.codeIn K cd3 "number_read" = true)
    (k3 : PySem.W.keepIn K (.ref f3) = true)
    (a4 : PySem.W.nsIn K mainGlobals "are_figures" = some (some (.ref f4)))
    (l4 : K.lookup f4 = some ⟨oc4, od4, .func (PySem.W.fnOf "are_figures" "are_figures" (defArgs (topS 17)) (defBody (topS 17)) (defScope (topS 17)) .none kV4 dc4 pm4 an4 cd4 ct4), sl4⟩)
    (c4 : PySem.W.codeIn K cd4 "are_figures" = true)
    (k4 : PySem.W.keepIn K (.ref f4) = true)
    (a5 : PySem.W.nsIn K mainGlobals "_law_cell_at" = some (some (.ref f5)))
    (l5 : K.lookup f5 = some ⟨oc5, od5, .func (PySem.W.fnOf "_law_cell_at" "_law_cell_at" (defArgs (topS 19)) (defBody (topS 19)) (defScope (topS 19)) .none kV5 dc5 pm5 an5 cd5 ct5), sl5⟩)
    (c5 : PySem.W.codeIn K cd5 "_law_cell_at" = true)
    (k5 : PySem.W.keepIn K (.ref f5) = true)
    (a6 : PySem.W.nsIn K mainGlobals "_law_whole" = some (some (.ref f6)))
    (l6 : K.lookup f6 = some ⟨oc6, od6, .func (PySem.W.fnOf "_law_whole" "_law_whole" (defArgs (topS 20)) (defBody (topS 20)) (defScope (topS 20)) .none kV6 dc6 pm6 an6 cd6 ct6), sl6⟩)
    (c6 : PySem.W.codeIn K cd6 "_law_whole" = true)
    (k6 : PySem.W.keepIn K (.ref f6) = true)
    (a7 : PySem.W.nsIn K mainGlobals "_law_number_in" = some (some (.ref f7)))
    (l7 : K.lookup f7 = some ⟨oc7, od7, .func (PySem.W.fnOf "_law_number_in" "_law_number_in" (defArgs (topS 21)) (defBody (topS 21)) (defScope (topS 21)) .none kV7 dc7 pm7 an7 cd7 ct7), sl7⟩)
    (c7 : PySem.W.codeIn K cd7 "_law_number_in" = true)
    (k7 : PySem.W.keepIn K (.ref f7) = true)
    (a8 : PySem.W.nsIn K mainGlobals "_law_read" = some (some (.ref f8)))
    (l8 : K.lookup f8 = some ⟨oc8, od8, .func (PySem.W.fnOf "_law_read" "_law_read" (defArgs (topS 22)) (defBody (topS 22)) (defScope (topS 22)) .none kV8 dc8 pm8 an8 cd8 ct8), sl8⟩)
    (c8 : PySem.W.codeIn K cd8 "_law_read" = true)
    (k8 : PySem.W.keepIn K (.ref f8) = true)
    (a9 : PySem.W.nsIn K mainGlobals "_law_odd" = some (some (.ref f9)))
    (l9 : K.lookup f9 = some ⟨oc9, od9, .func (PySem.W.fnOf "_law_odd" "_law_odd" (defArgs (topS 23)) (defBody (topS 23)) (defScope (topS 23)) .none kV9 dc9 pm9 an9 cd9 ct9), sl9⟩)
    (c9 : PySem.W.codeIn K cd9 "_law_odd" = true)
    (k9 : PySem.W.keepIn K (.ref f9) = true)
    (a10 : PySem.W.nsIn K mainGlobals "_law_text" = some (some (.ref f10)))
    (l10 : K.lookup f10 = some ⟨oc10, od10, .func (PySem.W.fnOf "_law_text" "_law_text" (defArgs (topS 24)) (defBody (topS 24)) (defScope (topS 24)) .none kV10 dc10 pm10 an10 cd10 ct10), sl10⟩)
    (c10 : PySem.W.codeIn K cd10 "_law_text" = true)
    (k10 : PySem.W.keepIn K (.ref f10) = true)
    (a11 : PySem.W.nsIn K mainGlobals "_law_refused" = some (some (.ref f11)))
    (l11 : K.lookup f11 = some ⟨oc11, od11, .func (PySem.W.fnOf "_law_refused" "_law_refused" (defArgs (topS 25)) (defBody (topS 25)) (defScope (topS 25)) .none kV11 dc11 pm11 an11 cd11 ct11), sl11⟩)
    (c11 : PySem.W.codeIn K cd11 "_law_refused" = true)
    (k11 : PySem.W.keepIn K (.ref f11) = true)
    (a12 : PySem.W.nsIn K mainGlobals "law" = some (some (.ref f12)))
    (l12 : K.lookup f12 = some ⟨oc12, od12, .func (PySem.W.fnOf "law" "law" (defArgs (topS 26)) (defBody (topS 26)) (defScope (topS 26)) .none kV12 dc12 pm12 an12 cd12 ct12), sl12⟩)
    (c12 : PySem.W.codeIn K cd12 "law" = true)
    (k12 : PySem.W.keepIn K (.ref f12) = true)
    (xg0 : PySem.W.nsIn K mainGlobals "CutError" = some (some (.ref x0)))
    (xk0 : PySem.W.keepIn K (.ref x0) = true)
    (xx0 : PySem.W.excIn K x0 [.type "ValueError", .type "Exception", .type "BaseException", .type "object"] "ValueError.__new__" = true)
    (xb0 : PySem.W.subIn K (.ref x0) (.type "BaseException") = some true)
    (xt0 : PySem.W.typeIn K (.ref x0) = some (.type "type"))
    (xg1 : PySem.W.nsIn K mainGlobals "BadProblem" = some (some (.ref x1)))
    (xk1 : PySem.W.keepIn K (.ref x1) = true)
    (xx1 : PySem.W.excIn K x1 [.type "ValueError", .type "Exception", .type "BaseException", .type "object"] "ValueError.__new__" = true)
    (xb1 : PySem.W.subIn K (.ref x1) (.type "BaseException") = some true)
    (xt1 : PySem.W.typeIn K (.ref x1) = some (.type "type"))
    (xg2 : PySem.W.nsIn K mainGlobals "BadPoint" = some (some (.ref x2)))
    (xk2 : PySem.W.keepIn K (.ref x2) = true)
    (xx2 : PySem.W.excIn K x2 [.type "ValueError", .type "Exception", .type "BaseException", .type "object"] "ValueError.__new__" = true)
    (xb2 : PySem.W.subIn K (.ref x2) (.type "BaseException") = some true)
    (xt2 : PySem.W.typeIn K (.ref x2) = some (.type "type"))
    (xg3 : PySem.W.nsIn K mainGlobals "BadBox" = some (some (.ref x3)))
    (xk3 : PySem.W.keepIn K (.ref x3) = true)
    (xx3 : PySem.W.excIn K x3 [.type "ValueError", .type "Exception", .type "BaseException", .type "object"] "ValueError.__new__" = true)
    (xb3 : PySem.W.subIn K (.ref x3) (.type "BaseException") = some true)
    (xt3 : PySem.W.typeIn K (.ref x3) = some (.type "type"))
    (xg4 : PySem.W.nsIn K mainGlobals "BadWeights" = some (some (.ref x4)))
    (xk4 : PySem.W.keepIn K (.ref x4) = true)
    (xx4 : PySem.W.excIn K x4 [.type "ValueError", .type "Exception", .type "BaseException", .type "object"] "ValueError.__new__" = true)
    (xb4 : PySem.W.subIn K (.ref x4) (.type "BaseException") = some true)
    (xt4 : PySem.W.typeIn K (.ref x4) = some (.type "type"))
    (xg5 : PySem.W.nsIn K mainGlobals "NoTurn" = some (some (.ref x5)))
    (xk5 : PySem.W.keepIn K (.ref x5) = true)
    (xx5 : PySem.W.excIn K x5 [.type "ValueError", .type "Exception", .type "BaseException", .type "object"] "ValueError.__new__" = true)
    (xb5 : PySem.W.subIn K (.ref x5) (.type "BaseException") = some true)
    (xt5 : PySem.W.typeIn K (.ref x5) = some (.type "type"))
    (xg6 : PySem.W.nsIn K mainGlobals "BadText" = some (some (.ref x6)))
    (xk6 : PySem.W.keepIn K (.ref x6) = true)
    (xx6 : PySem.W.excIn K x6 [.type "ValueError", .type "Exception", .type "BaseException", .type "object"] "ValueError.__new__" = true)
    (xb6 : PySem.W.subIn K (.ref x6) (.type "BaseException") = some true)
    (xt6 : PySem.W.typeIn K (.ref x6) = some (.type "type"))
    (i_MOST_UNKNOWNS : PySem.W.nsIn K mainGlobals "MOST_UNKNOWNS" = some (some (.int (3) t_MOST_UNKNOWNS)))
    (i_GREATEST_NUMBER : PySem.W.nsIn K mainGlobals "GREATEST_NUMBER" = some (some (.int (50) t_GREATEST_NUMBER)))
    (i_GREATEST_BOUND : PySem.W.nsIn K mainGlobals "GREATEST_BOUND" = some (some (.int (2000) t_GREATEST_BOUND)))
    (n_abs : PySem.W.nsIn K mainGlobals "abs" = some none)
    (n_all : PySem.W.nsIn K mainGlobals "all" = some none)
    (n_bool : PySem.W.nsIn K mainGlobals "bool" = some none)
    (n_int : PySem.W.nsIn K mainGlobals "int" = some none)
    (n_isinstance : PySem.W.nsIn K mainGlobals "isinstance" = some none)
    (n_len : PySem.W.nsIn K mainGlobals "len" = some none)
    (n_range : PySem.W.nsIn K mainGlobals "range" = some none)
    (n_str : PySem.W.nsIn K mainGlobals "str" = some none)
    (n_tuple : PySem.W.nsIn K mainGlobals "tuple" = some none)
    (r_hn : PySem.W.specialIn K (.builtin "object.__class__") "__get__" = some (some (.builtin "getset_descriptor.__get__")))
    (r_ht : PySem.W.takesIn K (.builtin "object.__class__") = some true)
    (r_nV : PySem.W.nsIn K mainGlobals "ValueError" = some none)
    (r_i0 : PySem.W.isClsIn K x0 = true)
    (r_i1 : PySem.W.isClsIn K x1 = true)
    (r_i2 : PySem.W.isClsIn K x2 = true)
    (r_i3 : PySem.W.isClsIn K x3 = true)
    (r_i4 : PySem.W.isClsIn K x4 = true)
    (r_i5 : PySem.W.isClsIn K x5 = true)
    (r_i6 : PySem.W.isClsIn K x6 = true)
    (r6_hg : PySem.W.findIn K (.ref x6) "__getattribute__" = some (some (.builtin "BaseException.__getattribute__")))
    (r6_hk : PySem.W.findIn K (.ref x6) "__getattr__" = some none)
    (r6_hd : PySem.W.hasDictIn K x6 = true)
    (r6_ha : PySem.W.findIn K (.ref x6) "__class__" = some (some (.builtin "object.__class__")))
    (r6_hm : PySem.W.mroIn K x6 (.type "object") = some true)
    (r6_s : PySem.W.subIn K (.ref x6) (.ref x6) = some true)
    (r6_kV : PySem.W.subIn K (.ref x6) (.type "ValueError") = some true)
    (r6_k0 : PySem.W.subIn K (.ref x6) (.ref x0) = some true)
    (r6_k1 : PySem.W.subIn K (.ref x6) (.ref x1) = some false)
    (r6_k2 : PySem.W.subIn K (.ref x6) (.ref x2) = some false)
    (r6_k3 : PySem.W.subIn K (.ref x6) (.ref x3) = some false)
    (r6_k4 : PySem.W.subIn K (.ref x6) (.ref x4) = some false)
    (r6_k5 : PySem.W.subIn K (.ref x6) (.ref x5) = some false) :
    ∃ fd : FuncData, (∀ (s : Shared) (v : Value), BindsTo s fd ⟨[v], []⟩ [("_law_script", v)]) ∧ ∀ base : Heap, K.In base → base.Ns mainGlobals mg → FnOk P w K mg base (L2.CX P w) 7 fa fd ["_law_script"] (spLaw K) := by
  have e := hfa.symm.trans (PySem.W.mg_of X G a12)
  cases e
  have D0 : DefAt K mg "is_word" (topS 12) ["word"] := by
    have F := fun_mk (st := topS 12) l0 c0 k0
    exact ⟨_, _, F, PySem.W.mg_of X G a0, F.binds fun _ _ _ _ _ _ us hl => match us, hl with | [_], _ => rfl⟩
  have D1 : DefAt K mg "shown" (topS 14) ["row"] := by
    have F := fun_mk (st := topS 14) l1 c1 k1
    exact ⟨_, _, F, PySem.W.mg_of X G a1, F.binds fun _ _ _ _ _ _ us hl => match us, hl with | [_], _ => rfl⟩
  have D2 : DefAt K mg "read" (topS 15) ["text"] := by
    have F := fun_mk (st := topS 15) l2 c2 k2
    exact ⟨_, _, F, PySem.W.mg_of X G a2, F.binds fun _ _ _ _ _ _ us hl => match us, hl with | [_], _ => rfl⟩
  have D3 : DefAt K mg "number_read" (topS 16) ["part", "greatest"] := by
    have F := fun_mk (st := topS 16) l3 c3 k3
    exact ⟨_, _, F, PySem.W.mg_of X G a3, F.binds fun _ _ _ _ _ _ us hl => match us, hl with | [_, _], _ => rfl⟩
  have D4 : DefAt K mg "are_figures" (topS 17) ["text"] := by
    have F := fun_mk (st := topS 17) l4 c4 k4
    exact ⟨_, _, F, PySem.W.mg_of X G a4, F.binds fun _ _ _ _ _ _ us hl => match us, hl with | [_], _ => rfl⟩
  have D5 : DefAt K mg "_law_cell_at" (topS 19) ["_law_script", "_law_k"] := by
    have F := fun_mk (st := topS 19) l5 c5 k5
    exact ⟨_, _, F, PySem.W.mg_of X G a5, F.binds fun _ _ _ _ _ _ us hl => match us, hl with | [_, _], _ => rfl⟩
  have D6 : DefAt K mg "_law_whole" (topS 20) ["_law_found"] := by
    have F := fun_mk (st := topS 20) l6 c6 k6
    exact ⟨_, _, F, PySem.W.mg_of X G a6, F.binds fun _ _ _ _ _ _ us hl => match us, hl with | [_], _ => rfl⟩
  have D7 : DefAt K mg "_law_number_in" (topS 21) ["_law_word", "_law_most"] := by
    have F := fun_mk (st := topS 21) l7 c7 k7
    exact ⟨_, _, F, PySem.W.mg_of X G a7, F.binds fun _ _ _ _ _ _ us hl => match us, hl with | [_, _], _ => rfl⟩
  have D8 : DefAt K mg "_law_read" (topS 22) ["_law_text_here"] := by
    have F := fun_mk (st := topS 22) l8 c8 k8
    exact ⟨_, _, F, PySem.W.mg_of X G a8, F.binds fun _ _ _ _ _ _ us hl => match us, hl with | [_], _ => rfl⟩
  have D9 : DefAt K mg "_law_odd" (topS 23) ["_law_cell"] := by
    have F := fun_mk (st := topS 23) l9 c9 k9
    exact ⟨_, _, F, PySem.W.mg_of X G a9, F.binds fun _ _ _ _ _ _ us hl => match us, hl with | [_], _ => rfl⟩
  have D10 : DefAt K mg "_law_text" (topS 24) ["_law_text_here", "_law_kind", "_law_cell"] := by
    have F := fun_mk (st := topS 24) l10 c10 k10
    exact ⟨_, _, F, PySem.W.mg_of X G a10, F.binds fun _ _ _ _ _ _ us hl => match us, hl with | [_, _, _], _ => rfl⟩
  have D11 : DefAt K mg "_law_refused" (topS 25) ["_law_text_here"] := by
    have F := fun_mk (st := topS 25) l11 c11 k11
    exact ⟨_, _, F, PySem.W.mg_of X G a11, F.binds fun _ _ _ _ _ _ us hl => match us, hl with | [_], _ => rfl⟩
  have D12 : DefAt K mg "law" (topS 26) ["_law_script"] := by
    have F := fun_mk (st := topS 26) l12 c12 k12
    exact ⟨_, _, F, PySem.W.mg_of X G a12, F.binds fun _ _ _ _ _ _ us hl => match us, hl with | [_], _ => rfl⟩
  have T : Top K mg (fun n => match n with | 0 => x0 | 1 => x1 | 2 => x2 | 3 => x3 | 4 => x4 | 5 => x5 | _ => x6) (fun _ => x0) :=
    { n_abs := PySem.W.mg_none_of X G n_abs,
      n_all := PySem.W.mg_none_of X G n_all,
      n_bool := PySem.W.mg_none_of X G n_bool,
      n_int := PySem.W.mg_none_of X G n_int,
      n_isinstance := PySem.W.mg_none_of X G n_isinstance,
      n_len := PySem.W.mg_none_of X G n_len,
      n_range := PySem.W.mg_none_of X G n_range,
      n_str := PySem.W.mg_none_of X G n_str,
      n_tuple := PySem.W.mg_none_of X G n_tuple,
      i_MOST_UNKNOWNS := ⟨_, PySem.W.mg_of X G i_MOST_UNKNOWNS⟩,
      i_GREATEST_NUMBER := ⟨_, PySem.W.mg_of X G i_GREATEST_NUMBER⟩,
      i_GREATEST_BOUND := ⟨_, PySem.W.mg_of X G i_GREATEST_BOUND⟩,
      e_CutError := ⟨PySem.W.mg_of X G xg0, xk0, xx0, xb0, xt0⟩,
      e_BadProblem := ⟨PySem.W.mg_of X G xg1, xk1, xx1, xb1, xt1⟩,
      e_BadPoint := ⟨PySem.W.mg_of X G xg2, xk2, xx2, xb2, xt2⟩,
      e_BadBox := ⟨PySem.W.mg_of X G xg3, xk3, xx3, xb3, xt3⟩,
      e_BadWeights := ⟨PySem.W.mg_of X G xg4, xk4, xx4, xb4, xt4⟩,
      e_NoTurn := ⟨PySem.W.mg_of X G xg5, xk5, xx5, xb5, xt5⟩,
      e_BadText := ⟨PySem.W.mg_of X G xg6, xk6, xx6, xb6, xt6⟩,
      d_is_word := D0,
      d_shown := D1,
      d_read := D2,
      d_number_read := D3,
      d_are_figures := D4,
      d__law_cell_at := D5,
      d__law_whole := D6,
      d__law_number_in := D7,
      d__law_read := D8,
      d__law_odd := D9,
      d__law_text := D10,
      d__law_refused := D11,
      d_law := D12 }
  have R6 : RefN K mg (fun n => match n with | 0 => x0 | 1 => x1 | 2 => x2 | 3 => x3 | 4 => x4 | 5 => x5 | _ => x6) 6 :=
    ⟨⟨r6_hg, r6_hk, xb6, r6_hd, r6_ha, r_hn, r_ht, r6_hm⟩, PySem.W.exm_ref xb6 r6_hd xt6 r6_s, fun j hj => match j, hj with
      | 0, _ => kit_own r6_s r_i0 xt0 r6_k0
      | 1, _ => kit_own r6_s r_i1 xt1 r6_k1
      | 2, _ => kit_own r6_s r_i2 xt2 r6_k2
      | 3, _ => kit_own r6_s r_i3 xt3 r6_k3
      | 4, _ => kit_own r6_s r_i4 xt4 r6_k4
      | 5, _ => kit_own r6_s r_i5 xt5 r6_k5
      | 6, _ => kit_own r6_s r_i6 xt6 r6_s
      , kit_ty2 (by decide +kernel) (fun z => by cases z) r6_kV, PySem.W.mg_none_of X G r_nV⟩
  exact ⟨_, fun s v => .of_eq rfl, fun base _ _ => ok_law T R6 (fun_mk (st := topS 26) l12 c12 k12) fun ns hl => law_true ns hl⟩
theorem walk {l : PySem.W.OpenLaw} {q : Program} {loose : List Str} {XP : (Str → Option Value) → Heap → Prop} {YP : World → Heap → Prop} {d : DefRec} {K : Params → PySem.W.Frag} (hn : l.most = some 63) (hdf : d.params.defaults = [])
    (hY : ∀ (w : World) (h : Heap), YP w h → (K w.params).In h)
    (F : ∀ (w : World) (mg : Str → Option Value) (fa : Addr) (h : Heap), (K w.params).In h → h.Ns mainGlobals mg → mg d.name = some (.ref fa) →
      ∃ fd : FuncData, (∀ (s : Shared) (u : Value), BindsTo s fd ⟨[u], []⟩ [("_law_script", u)]) ∧ ∀ base : Heap, (K w.params).In base → base.Ns mainGlobals mg → FnOk l.prog w (K w.params) mg base (L2.CX l.prog w) 7 fa fd ["_law_script"] (spLaw (K w.params))) :
    PySem.W.WalkO q loose XP YP l.row.toRowW d [] (fun f vs => PySem.call f vs) :=
  L2.walk_of (n := 63) (k := 7) (x := "_law_script") (CX := fun w => L2.CX l.prog w) (sp := fun w => spLaw (K w.params)) hn (by decide) hdf ⟨rfl, by decide, by decide⟩ hY F (fun _ _ a ns hl _ hS => ⟨a, ns, rfl, hS, hl, fun _ => rfl⟩) fun _ _ _ _ _ z => by
    obtain ⟨_, _, _, _, _, _, _, _, _, _, _, _, z⟩ := z
    exact z
end K02

set_option Elab.async false
set_option linter.all false
set_option maxRecDepth 100000
open PySem PySem.W PyProof.Rows in
set_option maxRecDepth 100000 in
set_option maxHeartbeats 0 in
theorem PySem.Challenge.cw_wholecut_k02_rows_written_holds : PySem.Challenge.rw_wholecut_k02_rows_written.Holds := by
  w_on; o_law; k_head; (case hw => w_witness2)
  k_fill
  refine K02.walk (l := PySem.Challenge.rw_wholecut_k02_rows_written) rfl rfl (fun w h Y => PySem.W.kIn_of Y) ?F
  case F =>
    intro w mg fa h KX G hmg
    refine' K02.all_mk KX G hmg ?a0 ?l0 ?c0 ?k0 ?a1 ?l1 ?c1 ?k1 ?a2 ?l2 ?c2 ?k2 ?a3 ?l3 ?c3 ?k3 ?a4 ?l4 ?c4 ?k4 ?a5 ?l5 ?c5 ?k5 ?a6 ?l6 ?c6 ?k6 ?a7 ?l7 ?c7 ?k7 ?a8 ?l8 ?c8 ?k8 ?a9 ?l9 ?c9 ?k9 ?a10 ?l10 ?c10 ?k10 ?a11 ?l11 ?c11 ?k11 ?a12 ?l12 ?c12 ?k12 ?xg0 ?xk0 ?xx0 ?xb0 ?xt0 ?xg1 ?xk1 ?xx1 ?xb1 ?xt1 ?xg2 ?xk2 ?xx2 ?xb2 ?xt2 ?xg3 ?xk3 ?xx3 ?xb3 ?xt3 ?xg4 ?xk4 ?xx4 ?xb4 ?xt4 ?xg5 ?xk5 ?xx5 ?xb5 ?xt5 ?xg6 ?xk6 ?xx6 ?xb6 ?xt6 ?i_MOST_UNKNOWNS ?i_GREATEST_NUMBER ?i_GREATEST_BOUND ?n_abs ?n_all ?n_bool ?n_int ?n_isinstance ?n_len ?n_range ?n_str ?n_tuple ?r_hn ?r_ht ?r_nV ?r_i0 ?r_i1 ?r_i2 ?r_i3 ?r_i4 ?r_i5 ?r_i6 ?r6_hg ?r6_hk ?r6_hd ?r6_ha ?r6_hm ?r6_s ?r6_kV ?r6_k0 ?r6_k1 ?r6_k2 ?r6_k3 ?r6_k4 ?r6_k5
    (case a0 => k_is)
    (case l0 => k_is)
    (case c0 => k_is)
    (case k0 => k_is)
    (case a1 => k_is)
    (case l1 => k_is)
    (case c1 => k_is)
    (case k1 => k_is)
    (case a2 => k_is)
    (case l2 => k_is)
    (case c2 => k_is)
    (case k2 => k_is)
    (case a3 => k_is)
    (case l3 => k_is)
    (case c3 => k_is)
    (case k3 => k_is)
    (case a4 => k_is)
    (case l4 => k_is)
    (case c4 => k_is)
    (case k4 => k_is)
    (case a5 => k_is)
    (case l5 => k_is)
    (case c5 => k_is)
    (case k5 => k_is)
    (case a6 => k_is)
    (case l6 => k_is)
    (case c6 => k_is)
    (case k6 => k_is)
    (case a7 => k_is)
    (case l7 => k_is)
    (case c7 => k_is)
    (case k7 => k_is)
    (case a8 => k_is)
    (case l8 => k_is)
    (case c8 => k_is)
    (case k8 => k_is)
    (case a9 => k_is)
    (case l9 => k_is)
    (case c9 => k_is)
    (case k9 => k_is)
    (case a10 => k_is)
    (case l10 => k_is)
    (case c10 => k_is)
    (case k10 => k_is)
    (case a11 => k_is)
    (case l11 => k_is)
    (case c11 => k_is)
    (case k11 => k_is)
    (case a12 => k_is)
    (case l12 => k_is)
    (case c12 => k_is)
    (case k12 => k_is)
    (case xg0 => k_is)
    (case xk0 => k_is)
    (case xx0 => k_exc)
    (case xb0 => k_is)
    (case xt0 => k_is)
    (case xg1 => k_is)
    (case xk1 => k_is)
    (case xx1 => k_exc)
    (case xb1 => k_is)
    (case xt1 => k_is)
    (case xg2 => k_is)
    (case xk2 => k_is)
    (case xx2 => k_exc)
    (case xb2 => k_is)
    (case xt2 => k_is)
    (case xg3 => k_is)
    (case xk3 => k_is)
    (case xx3 => k_exc)
    (case xb3 => k_is)
    (case xt3 => k_is)
    (case xg4 => k_is)
    (case xk4 => k_is)
    (case xx4 => k_exc)
    (case xb4 => k_is)
    (case xt4 => k_is)
    (case xg5 => k_is)
    (case xk5 => k_is)
    (case xx5 => k_exc)
    (case xb5 => k_is)
    (case xt5 => k_is)
    (case xg6 => k_is)
    (case xk6 => k_is)
    (case xx6 => k_exc)
    (case xb6 => k_is)
    (case xt6 => k_is)
    (case i_MOST_UNKNOWNS => k_is)
    (case i_GREATEST_NUMBER => k_is)
    (case i_GREATEST_BOUND => k_is)
    (case n_abs => k_is)
    (case n_all => k_is)
    (case n_bool => k_is)
    (case n_int => k_is)
    (case n_isinstance => k_is)
    (case n_len => k_is)
    (case n_range => k_is)
    (case n_str => k_is)
    (case n_tuple => k_is)
    (case r_hn => k_is)
    (case r_ht => k_is)
    (case r_nV => k_is)
    (case r_i0 => k_is)
    (case r_i1 => k_is)
    (case r_i2 => k_is)
    (case r_i3 => k_is)
    (case r_i4 => k_is)
    (case r_i5 => k_is)
    (case r_i6 => k_is)
    (case r6_hg => k_is)
    (case r6_hk => k_is)
    (case r6_hd => k_is)
    (case r6_ha => k_is)
    (case r6_hm => k_is)
    (case r6_s => first | rfl | k_is)
    (case r6_kV => k_is)
    (case r6_k0 => k_is)
    (case r6_k1 => k_is)
    (case r6_k2 => k_is)
    (case r6_k3 => k_is)
    (case r6_k4 => k_is)
    (case r6_k5 => k_is)

