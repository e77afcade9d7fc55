import PyProof.Rows.All
import Wide.All
import OpenK.AllK
import Wide.FinOn
import HandS.ForMost
import HandS.Wide
import HandS.ExcInit
import HandS.ExcValue
import HandS.EndBits
import HandS.Defaults
import HandS.More
import HandS.Strs
import HandS.IsInst
import HandS.DictComp
import HandS.Star
import HandS.Zip
import HandS.Conv
import HandS.SortInts
import KE.DataEq
import HandS.Exc
import KE.KExcIs
import HandS.ExcCtx
import HandS.ExcField
import HandS.ExcInitHot
import HandS.HeadHook1
import KE.KStateDown
import HandS.Head0
import HandS.Head1
import HandS.Head2
import HandS.HeadEnd
import HandS.HeadHook2
import HandS.Iter
import HandS.Sort
import HandS.SortOrd
import HandS.Call
import HandS.List
import HandS.Deep
import HandS.TupLe
import HandS.CallSlots
import HandS.SortRule
import HandS.Dict
import PySem.Challenge.RW_pairedtongues_k28_crossings_counted
set_option Elab.async false
set_option linter.all false
set_option maxRecDepth 100000
set_option maxHeartbeats 4000000
/-! The data machine: values W, a store of cells, readings over them that know no address. -/
namespace Dm
open PySem PySem.Spec PyProof.Rows L2

/-! ### values and cells -/
inductive W where
  | non | bl (b : Bool) | int (i : Int) | str (x : Str) | ty (n : String) | tup (ws : List W) | cell (k : Nat) | ref (a : Addr) | xr (a : Addr) (d : Option Addr) (dk : Option Nat) | rng (lo hi : Int)
inductive Cell where
  | dead | lst (ws : List W) | rol (ws : List W) | dct (kvs : List (Key × W))
  | exc (C : Addr) | exr (C : Addr) (j : Nat) | exf (fs : List (Str × W)) | xd (fs : List (Str × W))

/-- where an exception's dict lies -/
def dkR (θ : List Addr) : Option Nat → Option Addr → Prop
  | none, none => True
  | some k, some a => θ[k]? = some a
  | _, _ => False
mutual
inductive RW (K : PySem.W.Frag) (F : Hp) (θ : List Addr) : V → W → Prop
  | non : RW K F θ .non .non
  | bl (b : Bool) : RW K F θ (.bl b) (.bl b)
  | int (i : Int) : RW K F θ (.int i) (.int i)
  | str (x : Str) : RW K F θ (.str x) (.str x)
  | ty (n : String) : RW K F θ (.ty n) (.ty n)
  | tup {a : Addr} {vs : List V} {ws : List W} : SqT K F a vs → RWs K F θ vs ws → RW K F θ (.ref a) (.tup ws)
  | cell {k : Nat} {a : Addr} : θ[k]? = some a → RW K F θ (.ref a) (.cell k)
  | ref (a : Addr) : RW K F θ (.ref a) (.ref a)
  | xr {a : Addr} {d : Option Addr} {dk : Option Nat} : dkR θ dk d → RW K F θ (.ref a) (.xr a d dk)
  | rng {a : Addr} {lo hi : Int} : F a = some (.rng lo hi) → RW K F θ (.ref a) (.rng lo hi)
inductive RWs (K : PySem.W.Frag) (F : Hp) (θ : List Addr) : List V → List W → Prop
  | nil : RWs K F θ [] []
  | cons {v : V} {vs : List V} {w : W} {ws : List W} : RW K F θ v w → RWs K F θ vs ws → RWs K F θ (v :: vs) (w :: ws)
end
/-- what is frozen, and where the cells lie, only grows -/
structure Gr (F : Hp) (θ : List Addr) (F' : Hp) (θ' : List Addr) : Prop where
  fz : ∀ a o, F a = some o → F' a = some o
  th : ∃ m, θ' = θ ++ m
theorem Gr.refl {F : Hp} {θ : List Addr} : Gr F θ F θ := ⟨fun _ _ h => h, [], by simp⟩
theorem Gr.trans {F F1 F2 : Hp} {θ θ1 θ2 : List Addr} (a : Gr F θ F1 θ1) (b : Gr F1 θ1 F2 θ2) : Gr F θ F2 θ2 := by
  obtain ⟨m, e⟩ := a.th
  obtain ⟨n, e2⟩ := b.th
  exact ⟨fun x o h => b.fz x o (a.fz x o h), m ++ n, by rw [e2, e, List.append_assoc]⟩
theorem Gr.at {F F' : Hp} {θ θ' : List Addr} (g : Gr F θ F' θ') {k : Nat} {a : Addr} (h : θ[k]? = some a) : θ'[k]? = some a := by
  obtain ⟨m, e⟩ := g.th
  rw [e, List.getElem?_append_left (List.getElem?_eq_some_iff.mp h).1]
  exact h
theorem dkR.mono {F F' : Hp} {θ θ' : List Addr} (g : Gr F θ F' θ') {dk : Option Nat} {d : Option Addr} (h : dkR θ dk d) : dkR θ' dk d := by
  cases dk <;> cases d
  · exact True.intro
  · exact h.elim
  · exact h.elim
  · exact g.at h
theorem sqT_fz {K : PySem.W.Frag} {F F' : Hp} {a : Addr} {xs : List V} (e : ∀ a o, F a = some o → F' a = some o) (h : SqT K F a xs) : SqT K F' a xs := by
  rcases h with (h | ⟨o, h⟩) | h
  · exact .inl (.inl (e _ _ h))
  · exact .inl (.inr ⟨o, e _ _ h⟩)
  · exact .inr h
mutual
theorem RW.mono {K : PySem.W.Frag} {F F' : Hp} {θ θ' : List Addr} (g : Gr F θ F' θ') : ∀ {v : V} {w : W}, RW K F θ v w → RW K F' θ' v w
  | _, _, .non => .non
  | _, _, .bl b => .bl b
  | _, _, .int i => .int i
  | _, _, .str x => .str x
  | _, _, .ty n => .ty n
  | _, _, .tup h r => .tup (sqT_fz g.fz h) (RWs.mono g r)
  | _, _, .cell h => .cell (g.at h)
  | _, _, .ref a => .ref a
  | _, _, .xr h => .xr (h.mono g)
  | _, _, .rng h => .rng (g.fz _ _ h)
theorem RWs.mono {K : PySem.W.Frag} {F F' : Hp} {θ θ' : List Addr} (g : Gr F θ F' θ') : ∀ {v : List V} {w : List W}, RWs K F θ v w → RWs K F' θ' v w
  | _, _, .nil => .nil
  | _, _, .cons r t => .cons (RW.mono g r) (RWs.mono g t)
end
section
variable {K : PySem.W.Frag} {F : Hp} {θ : List Addr}
theorem RWs.length : ∀ {vs : List V} {ws : List W}, RWs K F θ vs ws → vs.length = ws.length
  | _, _, .nil => rfl
  | _, _, .cons _ t => by rw [List.length_cons, List.length_cons, RWs.length t]
theorem RWs.get : ∀ {vs : List V} {ws : List W} {i : Nat} {w : W}, RWs K F θ vs ws → ws[i]? = some w → ∃ v, vs[i]? = some v ∧ RW K F θ v w
  | _, _, _, _, .nil, e => by simp at e
  | _, _, 0, _, .cons r _, e => by simp at e; subst e; exact ⟨_, rfl, r⟩
  | _, _, i + 1, w, .cons _ t, e => by
    obtain ⟨v, h1, h2⟩ := RWs.get (i := i) (w := w) t (by simpa using e)
    exact ⟨v, by simpa using h1, h2⟩
theorem RWs.getV : ∀ {vs : List V} {ws : List W} {i : Nat} {v : V}, RWs K F θ vs ws → vs[i]? = some v → ∃ w, ws[i]? = some w ∧ RW K F θ v w
  | _, _, _, _, .nil, e => by simp at e
  | _, _, 0, _, .cons r _, e => by simp at e; subst e; exact ⟨_, rfl, r⟩
  | _, _, i + 1, v, .cons _ t, e => by
    obtain ⟨w, h1, h2⟩ := RWs.getV (i := i) (v := v) t (by simpa using e)
    exact ⟨w, by simpa using h1, h2⟩
theorem RWs.append : ∀ {vs us : List V} {ws zs : List W}, RWs K F θ vs ws → RWs K F θ us zs → RWs K F θ (vs ++ us) (ws ++ zs)
  | _, _, _, _, .nil, s => s
  | _, _, _, _, .cons r t, s => .cons r (RWs.append t s)
theorem RWs.set {v : V} {w : W} (r : RW K F θ v w) : ∀ {vs : List V} {ws : List W} (i : Nat), RWs K F θ vs ws → RWs K F θ (vs.set i v) (ws.set i w)
  | _, _, _, .nil => .nil
  | _, _, 0, .cons _ t => .cons r t
  | _, _, i + 1, .cons q t => .cons q (RWs.set r i t)
theorem RWs.erase : ∀ {vs : List V} {ws : List W} (i : Nat), RWs K F θ vs ws → RWs K F θ (vs.eraseIdx i) (ws.eraseIdx i)
  | _, _, _, .nil => .nil
  | _, _, 0, .cons _ t => t
  | _, _, i + 1, .cons q t => .cons q (RWs.erase i t)
theorem RWs.take : ∀ {vs : List V} {ws : List W} (n : Nat), RWs K F θ vs ws → RWs K F θ (vs.take n) (ws.take n)
  | _, _, 0, _ => .nil
  | _, _, _ + 1, .nil => .nil
  | _, _, n + 1, .cons r t => .cons r (RWs.take n t)
theorem RWs.drop : ∀ {vs : List V} {ws : List W} (n : Nat), RWs K F θ vs ws → RWs K F θ (vs.drop n) (ws.drop n)
  | _, _, 0, r => r
  | _, _, _ + 1, .nil => .nil
  | _, _, n + 1, .cons _ t => RWs.drop n t
theorem RWs.ints {ns : List Int} : RWs K F θ (ns.map V.int) (ns.map W.int) := by
  induction ns with
  | nil => exact .nil
  | cons n r ih => exact .cons (.int n) ih
theorem RW.int_inv {v : V} {i : Int} (r : RW K F θ v (.int i)) : v = .int i := by cases r; rfl
theorem RW.bl_inv {v : V} {b : Bool} (r : RW K F θ v (.bl b)) : v = .bl b := by cases r; rfl
theorem RW.str_inv {v : V} {x : Str} (r : RW K F θ v (.str x)) : v = .str x := by cases r; rfl
theorem RW.non_inv {v : V} (r : RW K F θ v .non) : v = .non := by cases r; rfl
theorem RW.ty_inv {v : V} {n : String} (r : RW K F θ v (.ty n)) : v = .ty n := by cases r; rfl
theorem RW.tup_inv {v : V} {ws : List W} (r : RW K F θ v (.tup ws)) : ∃ a vs, v = .ref a ∧ SqT K F a vs ∧ RWs K F θ vs ws := by
  cases r with
  | tup h q => exact ⟨_, _, rfl, h, q⟩
theorem RW.cell_inv {v : V} {k : Nat} (r : RW K F θ v (.cell k)) : ∃ a, v = .ref a ∧ θ[k]? = some a := by
  cases r with
  | cell h => exact ⟨_, rfl, h⟩
theorem RWs.one_inv {vs : List V} {w : W} (r : RWs K F θ vs [w]) : ∃ v, vs = [v] ∧ RW K F θ v w := by
  cases r with
  | cons a b => cases b; exact ⟨_, rfl, a⟩
theorem RWs.two_inv {vs : List V} {w z : W} (r : RWs K F θ vs [w, z]) : ∃ v u, vs = [v, u] ∧ RW K F θ v w ∧ RW K F θ u z := by
  cases r with
  | cons a b =>
    obtain ⟨u, e, c⟩ := b.one_inv
    subst e
    exact ⟨_, _, rfl, a, c⟩
end

/-! ### the store over the heap -/
abbrev Sto := List Cell
def KvR (K : PySem.W.Frag) (F : Hp) (θ : List Addr) : List (Key × V) → List (Key × W) → Prop := Paired fun p q => p.1 = q.1 ∧ RW K F θ p.2 q.2
def FsR (K : PySem.W.Frag) (F : Hp) (θ : List Addr) : List (Str × V) → List (Str × W) → Prop := Paired fun p q => p.1 = q.1 ∧ RW K F θ p.2 q.2
def CellOk (K : PySem.W.Frag) (F H : Hp) (θ : List Addr) (a : Addr) : Cell → Prop
  | .dead => True
  | .lst ws => F a = none ∧ ∃ vs, H a = some (.lst vs) ∧ RWs K F θ vs ws
  | .rol ws => F a = none ∧ ∃ o vs, H a = some (.frz o (.lst vs)) ∧ RWs K F θ vs ws
  | .dct kvs => F a = none ∧ ∃ vs, H a = some (.dK vs) ∧ KvR K F θ vs kvs
  | .exc C => F a = none ∧ H a = some (ExO (.ref C) a)
  | .exr C j => F a = none ∧ ∃ d, θ[j]? = some d ∧ H a = some (exo a C (some d))
  | .exf fs => F a = none ∧ ∃ vs, H a = some (exd a vs) ∧ FsR K F θ vs fs
  | .xd fs => F a = none ∧ ∃ vs, H a = some (.xd vs) ∧ FsR K F θ vs fs
structure Jn (K : PySem.W.Frag) (F H : Hp) (θ : List Addr) (O : Sto) : Prop where
  sub : ∀ a o, F a = some o → H a = some o
  len : θ.length = O.length
  nd : θ.Nodup
  ok : ∀ (k : Nat) (a : Addr) (c : Cell), θ[k]? = some a → O[k]? = some c → CellOk K F H θ a c
  kno : ∀ (k : Nat) (a : Addr), θ[k]? = some a → H a ≠ none
section
variable {K : PySem.W.Frag} {F F' H H' : Hp} {θ θ' : List Addr} {O : Sto}
theorem KvR.mono (g : Gr F θ F' θ') {vs : List (Key × V)} {kvs : List (Key × W)} (h : KvR K F θ vs kvs) : KvR K F' θ' vs kvs := Paired.mapP h fun _ _ r => ⟨r.1, r.2.mono g⟩
theorem FsR.mono (g : Gr F θ F' θ') {vs : List (Str × V)} {fs : List (Str × W)} (h : FsR K F θ vs fs) : FsR K F' θ' vs fs := Paired.mapP h fun _ _ r => ⟨r.1, r.2.mono g⟩
theorem nd_at {α : Type} {l : List α} (hN : l.Nodup) {i j : Nat} {x : α} (a : l[i]? = some x) (b : l[j]? = some x) : i = j := by
  obtain ⟨h1, e1⟩ := List.getElem?_eq_some_iff.mp a
  obtain ⟨h2, e2⟩ := List.getElem?_eq_some_iff.mp b
  exact (List.getElem_inj hN).mp (e1.trans e2.symm)
/-- what a cell says stays true where its own object stays and what is frozen grows elsewhere -/
theorem CellOk.stay {a : Addr} {c : Cell} (x : CellOk K F H θ a c) (g : Gr F θ F' θ') (hF : F a = none → H a ≠ none → F' a = none) (hH : ∀ o, H a = some o → H' a = some o) : CellOk K F' H' θ' a c := by
  cases c with
  | dead => exact True.intro
  | lst ws =>
    obtain ⟨f, vs, e, r⟩ := x
    exact ⟨hF f (by rw [e]; simp), vs, hH _ e, r.mono g⟩
  | rol ws =>
    obtain ⟨f, o, vs, e, r⟩ := x
    exact ⟨hF f (by rw [e]; simp), o, vs, hH _ e, r.mono g⟩
  | dct kvs =>
    obtain ⟨f, vs, e, r⟩ := x
    exact ⟨hF f (by rw [e]; simp), vs, hH _ e, r.mono g⟩
  | exc C =>
    obtain ⟨f, e⟩ := x
    exact ⟨hF f (by rw [e]; simp), hH _ e⟩
  | exr C i =>
    obtain ⟨f, d, t, e⟩ := x
    exact ⟨hF f (by rw [e]; simp), d, g.at t, hH _ e⟩
  | exf fs =>
    obtain ⟨f, vs, e, r⟩ := x
    exact ⟨hF f (by rw [e]; simp), vs, hH _ e, r.mono g⟩
  | xd fs =>
    obtain ⟨f, vs, e, r⟩ := x
    exact ⟨hF f (by rw [e]; simp), vs, hH _ e, r.mono g⟩
theorem Gr.upd {p : Addr} {o : HO} (h : F p = none) : Gr F θ (L2.upd F p o) θ := ⟨fun a u e => by
  rw [upd_ne (ne_of_none e h)]
  exact e, [], by simp⟩
theorem Gr.push {p : Addr} : Gr F θ F (θ ++ [p]) := ⟨fun _ _ e => e, [p], rfl⟩
theorem Jn.freeF (j : Jn K F H θ O) {p : Addr} (h : H p = none) : F p = none := by
  cases e : F p with
  | none => rfl
  | some o => rw [j.sub p o e] at h; cases h
theorem Jn.nin (j : Jn K F H θ O) {p : Addr} (h : H p = none) {k : Nat} {a : Addr} (e : θ[k]? = some a) : a ≠ p := fun z => by
  subst z
  exact j.kno k a e h
/-- a new tuple -/
theorem Jn.newT (j : Jn K F H θ O) {p : Addr} {vs : List V} (h : H p = none) : Jn K (L2.upd F p (.tup vs)) (L2.upd H p (.tup vs)) θ O := by
  refine ⟨fun a o e => ?_, j.len, j.nd, fun k a c e1 e2 => ?_, fun k a e => ?_⟩
  · by_cases q : a = p
    · subst q
      rw [upd_same] at e ⊢
      exact e
    · rw [upd_ne q] at e ⊢
      exact j.sub a o e
  · have q := j.nin h e1
    exact (j.ok k a c e1 e2).stay (Gr.upd (j.freeF h)) (fun f _ => by rw [upd_ne q]; exact f) fun o e => by rw [upd_ne q]; exact e
  · rw [upd_ne (j.nin h e)]
    exact j.kno k a e
/-- a new list, a cell of its own -/
theorem Jn.newC (j : Jn K F H θ O) {p : Addr} {o : HO} {c : Cell} (h : H p = none) (hc : CellOk K F (L2.upd H p o) (θ ++ [p]) p c) : Jn K F (L2.upd H p o) (θ ++ [p]) (O ++ [c]) := by
  refine ⟨fun a u e => ?_, by rw [List.length_append, List.length_append, j.len]; rfl, ?_, fun k a d e1 e2 => ?_, fun k a e => ?_⟩
  · rw [upd_ne (ne_of_none (j.sub a u e) h)]
    exact j.sub a u e
  · rw [List.nodup_append]
    refine ⟨j.nd, by simp, fun a ha b hb z => ?_⟩
    obtain ⟨k, hk⟩ := List.getElem?_of_mem ha
    rw [List.mem_singleton] at hb
    exact j.nin h hk (z.trans hb)
  · by_cases q : k < θ.length
    · rw [List.getElem?_append_left q] at e1
      rw [List.getElem?_append_left (by rw [← j.len]; exact q)] at e2
      have n := j.nin h e1
      exact (j.ok k a d e1 e2).stay Gr.push (fun f _ => f) fun o e => by rw [upd_ne n]; exact e
    · rw [List.getElem?_append_right (by omega)] at e1
      rw [List.getElem?_append_right (by rw [← j.len]; omega)] at e2
      have z : k - θ.length = 0 := by
        have := (List.getElem?_eq_some_iff.mp e1).1
        simp at this
        omega
      rw [z] at e1
      rw [← j.len, z] at e2
      simp at e1 e2
      subst e1
      subst e2
      exact hc
  · by_cases q : k < θ.length
    · rw [List.getElem?_append_left q] at e
      rw [upd_ne (j.nin h e)]
      exact j.kno k a e
    · rw [List.getElem?_append_right (by omega)] at e
      have z : a = p := by
        have hk := (List.getElem?_eq_some_iff.mp e).1
        have z : k - θ.length = 0 := by simp at hk; omega
        rw [z] at e
        simpa using e.symm
      rw [z, upd_same]
      simp
theorem Jn.newL (j : Jn K F H θ O) {p : Addr} {vs : List V} {ws : List W} (h : H p = none) (r : RWs K F θ vs ws) : Jn K F (L2.upd H p (.lst vs)) (θ ++ [p]) (O ++ [.lst ws]) :=
  j.newC h ⟨j.freeF h, vs, upd_same, r.mono Gr.push⟩
/-- a cell is written -/
theorem Jn.put (j : Jn K F H θ O) {k : Nat} {a : Addr} {o : HO} {c : Cell} (e : θ[k]? = some a) (f : F a = none) (hc : CellOk K F (L2.upd H a o) θ a c) : Jn K F (L2.upd H a o) θ (O.set k c) := by
  refine ⟨fun b u q => ?_, by rw [List.length_set]; exact j.len, j.nd, fun i b d e1 e2 => ?_, fun i b q => ?_⟩
  · rw [upd_ne (ne_of_none q f)]
    exact j.sub b u q
  · by_cases q : i = k
    · subst q
      rw [e] at e1
      cases e1
      have hl : i < O.length := by
        rw [← j.len]
        exact (List.getElem?_eq_some_iff.mp e).1
      rw [List.getElem?_set_self hl] at e2
      cases e2
      exact hc
    · rw [List.getElem?_set_ne (Ne.symm q)] at e2
      have n : b ≠ a := fun z => by
        subst z
        exact q (nd_at j.nd e1 e)
      exact (j.ok i b d e1 e2).stay Gr.refl (fun z _ => z) fun u z => by rw [upd_ne n]; exact z
  · by_cases n : b = a
    · rw [n, upd_same]
      simp
    · rw [upd_ne n]
      exact j.kno i b q
theorem Jn.putL (j : Jn K F H θ O) {k : Nat} {a : Addr} {vs : List V} {ws : List W} (e : θ[k]? = some a) (f : F a = none) (r : RWs K F θ vs ws) : Jn K F (L2.upd H a (.lst vs)) θ (O.set k (.lst ws)) :=
  j.put e f ⟨f, vs, upd_same, r⟩
/-- what a list cell says -/
theorem Jn.lst (j : Jn K F H θ O) {k : Nat} {a : Addr} {ws : List W} (e : θ[k]? = some a) (c : O[k]? = some (.lst ws)) : F a = none ∧ ∃ vs, H a = some (.lst vs) ∧ RWs K F θ vs ws := j.ok k a _ e c
theorem Jn.rol (j : Jn K F H θ O) {k : Nat} {a : Addr} {ws : List W} (e : θ[k]? = some a) (c : O[k]? = some (.rol ws)) : F a = none ∧ ∃ o vs, H a = some (.frz o (.lst vs)) ∧ RWs K F θ vs ws := j.ok k a _ e c
theorem sqT_sub (j : Jn K F H θ O) {a : Addr} {xs : List V} (h : SqT K F a xs) : SqT K H a xs := sqT_fz j.sub h
/-- a list that may be read -/
def LstC (O : Sto) (k : Nat) (ws : List W) : Prop := O[k]? = some (.lst ws) ∨ O[k]? = some (.rol ws)
theorem Jn.lstC (j : Jn K F H θ O) {k : Nat} {a : Addr} {ws : List W} (e : θ[k]? = some a) (c : LstC O k ws) : ∃ vs, SqL K H a vs ∧ RWs K F θ vs ws := by
  rcases c with c | c
  · obtain ⟨_, vs, h, r⟩ := j.lst e c
    exact ⟨vs, .inl (.inl h), r⟩
  · obtain ⟨_, o, vs, h, r⟩ := j.rol e c
    exact ⟨vs, .inl (.inr ⟨o, h⟩), r⟩
end

/-! ### readings over the data -/
abbrev DS := List (Option W)
abbrev WK := W → Sto → Prop
abbrev DE := DS → Sto → WK → Prop
abbrev DT := DS → Sto → (Bool → Sto → Prop) → Prop
abbrev DA := DS → Sto → (List W → Sto → Prop) → Prop
def RS (K : PySem.W.Frag) (F : Hp) (θ : List Addr) (σ : L2.St) (δ : DS) : Prop := σ.length = δ.length ∧ ∀ (i : Nat) (w : W), δ[i]? = some (some w) → ∃ v, σ[i]? = some (some v) ∧ RW K F θ v w
theorem RS.mono {K : PySem.W.Frag} {F F' : Hp} {θ θ' : List Addr} {σ : L2.St} {δ : DS} (g : Gr F θ F' θ') (h : RS K F θ σ δ) : RS K F' θ' σ δ := ⟨h.1, fun i w e =>
  let ⟨v, q, r⟩ := h.2 i w e
  ⟨v, q, r.mono g⟩⟩
theorem RS.set {K : PySem.W.Frag} {F : Hp} {θ : List Addr} {σ : L2.St} {δ : DS} (h : RS K F θ σ δ) (i : Nat) {v : V} {w : W} (r : RW K F θ v w) : RS K F θ (σ.set i (some v)) (δ.set i (some w)) := by
  refine ⟨by rw [List.length_set, List.length_set]; exact h.1, fun j z e => ?_⟩
  by_cases q : j = i
  · subst q
    have hl : j < δ.length := by
      have := (List.getElem?_eq_some_iff.mp e).1
      rwa [List.length_set] at this
    rw [List.getElem?_set_self hl] at e
    cases e
    exact ⟨v, by rw [List.getElem?_set_self (by rw [h.1]; exact hl)], r⟩
  · rw [List.getElem?_set_ne (Ne.symm q)] at e ⊢
    exact h.2 j z e
def SE (K : PySem.W.Frag) (te : TE) (we : DE) : Prop := ∀ F H θ O σ δ S, Jn K F H θ O → RS K F θ σ δ → we δ O S → ∀ Q : VK,
  (∀ v w F' H' θ' O', Gr F θ F' θ' → Jn K F' H' θ' O' → RW K F' θ' v w → S w O' → Q v H') → te σ H Q
def STt (K : PySem.W.Frag) (tt : TT) (wt : DT) : Prop := ∀ F H θ O σ δ S, Jn K F H θ O → RS K F θ σ δ → wt δ O S → ∀ Q : Bool → Hp → Prop,
  (∀ b F' H' θ' O', Gr F θ F' θ' → Jn K F' H' θ' O' → S b O' → Q b H') → tt σ H Q
def SA (K : PySem.W.Frag) (ta : TA) (wa : DA) : Prop := ∀ F H θ O σ δ S, Jn K F H θ O → RS K F θ σ δ → wa δ O S → ∀ Q : List V → Hp → Prop,
  (∀ vs ws F' H' θ' O', Gr F θ F' θ' → Jn K F' H' θ' O' → RWs K F' θ' vs ws → S ws O' → Q vs H') → ta σ H Q
/-- two values in, a value out -/
abbrev R2D := W → W → Sto → WK → Prop
def SR2 (K : PySem.W.Frag) (r : R2) (rd : R2D) : Prop := ∀ F H θ O x y v u S, Jn K F H θ O → RW K F θ v x → RW K F θ u y → rd x y O S → ∀ Q : VK,
  (∀ z w F' H' θ' O', Gr F θ F' θ' → Jn K F' H' θ' O' → RW K F' θ' z w → S w O' → Q z H') → r v u H Q
structure ED (X : Cx) (e : Expr) (we : DE) : Prop where
  ex : ∃ te, PE X e te ∧ SE X.K te we
structure EDT (X : Cx) (e : Expr) (wt : DT) : Prop where
  ex : ∃ tt, PT X e tt ∧ STt X.K tt wt
structure EDA (X : Cx) (es : List Expr) (wa : DA) : Prop where
  ex : ∃ ta, PA X es ta ∧ SA X.K ta wa

def dVar (i : Nat) : DE := fun δ O S => ∃ w, δ[i]? = some (some w) ∧ S w O
def dC (w : W) : DE := fun _ O S => S w O
def dOp (r : R2D) (wa wb : DE) : DE := fun δ O S => wa δ O fun x O1 => wb δ O1 fun y O2 => r x y O2 S
def dNil : DA := fun _ O S => S [] O
def dCons (wa : DE) (wr : DA) : DA := fun δ O S => wa δ O fun x O1 => wr δ O1 fun xs O2 => S (x :: xs) O2
def dTup (wa : DA) : DE := fun δ O S => wa δ O fun ws O1 => ws.length ≤ sizeLine ∧ S (.tup ws) O1
def dLst (wa : DA) : DE := fun δ O S => wa δ O fun ws O1 => ws.length ≤ sizeLine ∧ S (.cell O1.length) (O1 ++ [.lst ws])
def dTest (we : DE) : DT := fun δ O S => we δ O fun x O1 => ∃ b, x = .bl b ∧ S b O1
def dIfE (wt : DT) (wa wb : DE) : DE := fun δ O S => wt δ O fun b O1 => if b = true then wa δ O1 S else wb δ O1 S
def dAnd (wt wu : DT) : DT := fun δ O S => wt δ O fun b O1 => if b = true then wu δ O1 S else S false O1
def dOr (wt wu : DT) : DT := fun δ O S => wt δ O fun b O1 => if b = true then S true O1 else wu δ O1 S
def dNot (wt : DT) : DT := fun δ O S => wt δ O fun b O1 => S (!b) O1

section
variable {X : Cx} {a b c e : Expr} {es : List Expr} {wa wb we : DE} {wr : DA} {wt wu : DT} {pos : Pos}
theorem SE.pure {K : PySem.W.Frag} {v : V} {w : W} (h : ∀ F θ, RW K F θ v w) : SE K (tC v) (dC w) := fun F H θ O σ δ S j s q Q k => k v w F H θ O Gr.refl j (h F θ) q
theorem ed_var {i : Nat} {x : Str} (h : PE X (.Name x pos) (tVar i)) : ED X (.Name x pos) (dVar i) := ⟨_, h, fun F H θ O σ δ S j s q Q k => by
  obtain ⟨w, e, q⟩ := q
  obtain ⟨v, e2, r⟩ := s.2 i w e
  exact ⟨v, e2, k v w F H θ O Gr.refl j r q⟩⟩
theorem dv (i : Nat) {x : Str} (hN : X.N[i]? = some x := by rfl) (hv : Vis X.env.scope x := by first | exact Or.inl rfl | exact Or.inr (Or.inl rfl) | exact Or.inr (Or.inr rfl)) (hd : (x == ("__debug__" : Str)) = false := by decide)
    (hcd : (x == ("__classdict__" : Str)) = false := by decide) : ED X (.Name x pos) (dVar i) := ed_var (pe_var hN hv hd hcd)
theorem ed_int {i j} : ED X (.Constant (.int i) j pos) (dC (.int i)) := ⟨_, pe_int, SE.pure fun _ _ => .int i⟩
theorem ed_bl {z j} : ED X (.Constant (.bool z) j pos) (dC (.bl z)) := ⟨_, pe_bl, SE.pure fun _ _ => .bl z⟩
theorem ed_non {j} : ED X (.Constant .none j pos) (dC .non) := ⟨_, pe_non, SE.pure fun _ _ => .non⟩
theorem ed_str {x j} : ED X (.Constant (.str x) j pos) (dC (.str x)) := ⟨_, pe_str, SE.pure fun _ _ => .str x⟩
theorem SE.op {K : PySem.W.Frag} {r : R2} {rd : R2D} {ta tb : TE} (hr : SR2 K r rd) (ha : SE K ta wa) (hb : SE K tb wb) : SE K (tOp r ta tb) (dOp rd wa wb) := fun F H θ O σ δ S j s q Q k => by
  refine ha F H θ O σ δ _ j s q _ fun v x F1 H1 θ1 O1 g1 j1 r1 q1 => ?_
  refine hb F1 H1 θ1 O1 σ δ _ j1 (s.mono g1) q1 _ fun u y F2 H2 θ2 O2 g2 j2 r2 q2 => ?_
  exact hr F2 H2 θ2 O2 x y v u S j2 (r1.mono g2) r2 q2 Q fun z w F3 H3 θ3 O3 g3 j3 r3 q3 => k z w F3 H3 θ3 O3 ((g1.trans g2).trans g3) j3 r3 q3
theorem ed_op {op : Operator} {r : R2} {rd : R2D} (ho : OpR X (binaryOp op) r) (hr : SR2 X.K r rd) (ha : ED X a wa) (hb : ED X b wb) : ED X (.BinOp a op b pos) (dOp rd wa wb) := by
  obtain ⟨ta, pa, sa⟩ := ha.ex
  obtain ⟨tb, pb, sb⟩ := hb.ex
  exact ⟨_, pe_op ho pa pb, .op hr sa sb⟩
theorem ed_cmp {op : CmpOp} {r : R2} {rd : R2D} (ho : OpR X (compareOp op) r) (hr : SR2 X.K r rd) (ha : ED X a wa) (hb : ED X b wb) (hm : behindInMarks op b = false) : ED X (.Compare a [op] [b] pos) (dOp rd wa wb) := by
  obtain ⟨ta, pa, sa⟩ := ha.ex
  obtain ⟨tb, pb, sb⟩ := hb.ex
  exact ⟨_, pe_cmpR ho pa pb hm, .op hr sa sb⟩
theorem STt.test {K : PySem.W.Frag} {te : TE} (ha : SE K te we) : STt K (tTest te) (dTest we) := fun F H θ O σ δ S j s q Q k => by
  refine ha F H θ O σ δ _ j s q _ fun v x F1 H1 θ1 O1 g1 j1 r1 q1 => ?_
  obtain ⟨b, rfl, q1⟩ := q1
  exact ⟨b, r1.bl_inv, k b F1 H1 θ1 O1 g1 j1 q1⟩
theorem et_cmp {op : CmpOp} {r : R2} {rd : R2D} (ho : OpR X (compareOp op) r) (hr : SR2 X.K r rd) (ha : ED X a wa) (hb : ED X b wb) (hm : behindInMarks op b = false) : EDT X (.Compare a [op] [b] pos) (dTest (dOp rd wa wb)) := by
  obtain ⟨ta, pa, sa⟩ := ha.ex
  obtain ⟨tb, pb, sb⟩ := hb.ex
  exact ⟨_, pt_cmpR ho pa pb hm, .test (.op hr sa sb)⟩
theorem et_val {te : Expr} (h : ED X te we) (he : ∀ whole, isTrue te X.env whole = (do let v ← whole; standAt te.pos; holding [v] (truthy v)) := by intro _; rfl) : EDT X te (dTest we) := by
  obtain ⟨t, p, s⟩ := h.ex
  exact ⟨_, pt_val p he, .test s⟩
theorem et_not (h : EDT X a wt) : EDT X (.UnaryOp .Not a pos) (dNot wt) := by
  obtain ⟨t, p, s⟩ := h.ex
  refine ⟨_, pt_not p, fun F H θ O σ δ S j s' q Q k => ?_⟩
  exact s F H θ O σ δ _ j s' q _ fun b F1 H1 θ1 O1 g1 j1 q1 => k (!b) F1 H1 θ1 O1 g1 j1 q1
theorem ed_if (hc : EDT X c wt) (ha : ED X a wa) (hb : ED X b wb) : ED X (.IfExp c a b pos) (dIfE wt wa wb) := by
  obtain ⟨tc, pc, sc⟩ := hc.ex
  obtain ⟨ta, pa, sa⟩ := ha.ex
  obtain ⟨tb, pb, sb⟩ := hb.ex
  refine ⟨_, pe_ifExp pc pa pb, fun F H θ O σ δ S j s q Q k => ?_⟩
  refine sc F H θ O σ δ _ j s q _ fun b F1 H1 θ1 O1 g1 j1 q1 => ?_
  cases b with
  | true => exact sa F1 H1 θ1 O1 σ δ S j1 (s.mono g1) q1 Q fun v w F2 H2 θ2 O2 g2 j2 r2 q2 => k v w F2 H2 θ2 O2 (g1.trans g2) j2 r2 q2
  | false => exact sb F1 H1 θ1 O1 σ δ S j1 (s.mono g1) q1 Q fun v w F2 H2 θ2 O2 g2 j2 r2 q2 => k v w F2 H2 θ2 O2 (g1.trans g2) j2 r2 q2
/-- and, or: in tests -/
structure EDW (X : Cx) (e : Expr) (wt : DT) : Prop where
  ex : ∃ tt, PW X e tt ∧ STt X.K tt wt
theorem EDW.t (h : EDW X e wt) : EDT X e wt := let ⟨t, p, s⟩ := h.ex; ⟨t, p.pt, s⟩
theorem ew_and1 (h : EDT X a wt) : EDW X (.BoolOp .And [a] pos) wt := let ⟨t, p, s⟩ := h.ex; ⟨t, pw_and1 p, s⟩
theorem ew_or1 (h : EDT X a wt) : EDW X (.BoolOp .Or [a] pos) wt := let ⟨t, p, s⟩ := h.ex; ⟨t, pw_or1 p, s⟩
theorem ew_and {rest : List Expr} (h : EDT X a wt) (hr : EDW X (.BoolOp .And (b :: rest) pos) wu) : EDW X (.BoolOp .And (a :: b :: rest) pos) (dAnd wt wu) := by
  obtain ⟨t, p, s⟩ := h.ex
  obtain ⟨t2, p2, s2⟩ := hr.ex
  refine ⟨_, pw_and p p2, fun F H θ O σ δ S j r q Q k => ?_⟩
  refine s F H θ O σ δ _ j r q _ fun b F1 H1 θ1 O1 g1 j1 q1 => ?_
  cases b with
  | true => exact s2 F1 H1 θ1 O1 σ δ S j1 (r.mono g1) q1 Q fun b F2 H2 θ2 O2 g2 j2 q2 => k b F2 H2 θ2 O2 (g1.trans g2) j2 q2
  | false => exact k false F1 H1 θ1 O1 g1 j1 q1
theorem ew_or {rest : List Expr} (h : EDT X a wt) (hr : EDW X (.BoolOp .Or (b :: rest) pos) wu) : EDW X (.BoolOp .Or (a :: b :: rest) pos) (dOr wt wu) := by
  obtain ⟨t, p, s⟩ := h.ex
  obtain ⟨t2, p2, s2⟩ := hr.ex
  refine ⟨_, pw_or p p2, fun F H θ O σ δ S j r q Q k => ?_⟩
  refine s F H θ O σ δ _ j r q _ fun b F1 H1 θ1 O1 g1 j1 q1 => ?_
  cases b with
  | true => exact k true F1 H1 θ1 O1 g1 j1 q1
  | false => exact s2 F1 H1 θ1 O1 σ δ S j1 (r.mono g1) q1 Q fun b F2 H2 θ2 O2 g2 j2 q2 => k b F2 H2 θ2 O2 (g1.trans g2) j2 q2
/-! arguments, displays -/
theorem ea_nil : EDA X [] dNil := ⟨_, pa_nil, fun F H θ O σ δ S j s q Q k => k [] [] F H θ O Gr.refl j .nil q⟩
theorem ea_cons (h : ED X e we) (hr : EDA X es wr) (hs : starEach (e :: es) X.env = (false, eval e X.env) :: starEach es X.env := by rfl) : EDA X (e :: es) (dCons we wr) := by
  obtain ⟨t, p, s⟩ := h.ex
  obtain ⟨t2, p2, s2⟩ := hr.ex
  refine ⟨_, pa_cons p p2 hs, fun F H θ O σ δ S j r q Q k => ?_⟩
  refine s F H θ O σ δ _ j r q _ fun v w F1 H1 θ1 O1 g1 j1 r1 q1 => ?_
  exact s2 F1 H1 θ1 O1 σ δ _ j1 (r.mono g1) q1 _ fun vs ws F2 H2 θ2 O2 g2 j2 r2 q2 => k _ _ F2 H2 θ2 O2 (g1.trans g2) j2 (.cons (r1.mono g2) r2) q2
theorem ed_tup {x1} (h : EDA X es wr) : ED X (.Tuple es x1 pos) (dTup wr) := by
  obtain ⟨t, p, s⟩ := h.ex
  refine ⟨_, pe_tup p, fun F H θ O σ δ S j r q Q k => ?_⟩
  refine s F H θ O σ δ _ j r q _ fun vs ws F1 H1 θ1 O1 g1 j1 r1 q1 => ⟨by rw [r1.length]; exact q1.1, fun p hp => ?_⟩
  have g2 : Gr F1 θ1 (L2.upd F1 p (.tup vs)) θ1 := Gr.upd (j1.freeF hp)
  exact k _ _ _ _ _ _ (g1.trans g2) (j1.newT hp) (.tup (.inl (.inl upd_same)) (r1.mono g2)) q1.2
theorem ed_lst (h : EDA X es wr) : ED X (.List es pos) (dLst wr) := by
  obtain ⟨t, p, s⟩ := h.ex
  refine ⟨_, pe_lst p, fun F H θ O σ δ S j r q Q k => ?_⟩
  refine s F H θ O σ δ _ j r q _ fun vs ws F1 H1 θ1 O1 g1 j1 r1 q1 => ⟨by rw [r1.length]; exact q1.1, fun p hp => ?_⟩
  exact k _ _ _ _ _ _ (g1.trans Gr.push) (j1.newL hp r1) (.cell (by rw [← j1.len]; simp)) q1.2
end
end Dm

set_option Elab.async false
set_option linter.all false
set_option maxRecDepth 100000
set_option maxHeartbeats 4000000
/-! The data machine: statements, loops, calls. -/
namespace Dm
open PySem PySem.Spec PyProof.Rows L2

structure DEnds where
  nx : DS → Sto → Prop
  rt : WK
  bk : DS → Sto → Prop := fun _ _ => False
  ct : DS → Sto → Prop := fun _ _ => False
abbrev DTS := DEnds → DS → Sto → Prop
/-- the ends over the heap follow from those over the data -/
structure Lk (K : PySem.W.Frag) (F : Hp) (θ : List Addr) (D : DEnds) (D' : Ends) : Prop where
  nx : ∀ F' H' θ' O' σ δ, Gr F θ F' θ' → Jn K F' H' θ' O' → RS K F' θ' σ δ → D.nx δ O' → D'.nx σ H'
  rt : ∀ F' H' θ' O' v w, Gr F θ F' θ' → Jn K F' H' θ' O' → RW K F' θ' v w → D.rt w O' → D'.rt v H'
  bk : ∀ F' H' θ' O' σ δ, Gr F θ F' θ' → Jn K F' H' θ' O' → RS K F' θ' σ δ → D.bk δ O' → D'.bk σ H'
  ct : ∀ F' H' θ' O' σ δ, Gr F θ F' θ' → Jn K F' H' θ' O' → RS K F' θ' σ δ → D.ct δ O' → D'.ct σ H'
theorem Lk.mono {K : PySem.W.Frag} {F F1 : Hp} {θ θ1 : List Addr} {D : DEnds} {D' : Ends} (l : Lk K F θ D D') (g : Gr F θ F1 θ1) : Lk K F1 θ1 D D' :=
  ⟨fun F' H' θ' O' σ δ g2 => l.nx F' H' θ' O' σ δ (g.trans g2), fun F' H' θ' O' v w g2 => l.rt F' H' θ' O' v w (g.trans g2),
    fun F' H' θ' O' σ δ g2 => l.bk F' H' θ' O' σ δ (g.trans g2), fun F' H' θ' O' σ δ g2 => l.ct F' H' θ' O' σ δ (g.trans g2)⟩
def SS (K : PySem.W.Frag) (ts : TS) (ws : DTS) : Prop := ∀ F H θ O σ δ D D', Jn K F H θ O → RS K F θ σ δ → ws D δ O → Lk K F θ D D' → ts D' σ H
structure EDS (X : Cx) (st : Stmt) (ws : DTS) : Prop where
  ex : ∃ ts, PS X st ts ∧ SS X.K ts ws
structure EDB (X : Cx) (st : List Stmt) (ws : DTS) : Prop where
  ex : ∃ ts, PSs X st ts ∧ SS X.K ts ws
/-- a target: the value stored, what is then -/
abbrev DG := W → DS → Sto → (DS → Sto → Prop) → Prop
def SG (K : PySem.W.Frag) (g : TG) (gd : DG) : Prop := ∀ F H θ O σ δ v w S, Jn K F H θ O → RS K F θ σ δ → RW K F θ v w → gd w δ O S → ∀ Q : L2.St → Hp → Prop,
  (∀ F' H' θ' O' σ' δ', Gr F θ F' θ' → Jn K F' H' θ' O' → RS K F' θ' σ' δ' → S δ' O' → Q σ' H') → g v σ H Q
structure EDG (X : Cx) (tg : Expr) (gd : DG) : Prop where
  ex : ∃ g, PG X tg g ∧ SG X.K g gd

def dNext : DTS := fun D δ O => D.nx δ O
def dSeq (w1 w2 : DTS) : DTS := fun D δ O => w1 { D with nx := w2 D } δ O
def dIf (wt : DT) (w1 w2 : DTS) : DTS := fun D δ O => wt δ O fun b O1 => if b = true then w1 D δ O1 else w2 D δ O1
def dRet (we : DE) : DTS := fun D δ O => we δ O D.rt
def dRetN : DTS := fun D _ O => D.rt .non O
def dDrop (we : DE) : DTS := fun D δ O => we δ O fun _ O1 => D.nx δ O1
def dSet (i : Nat) (we : DE) : DTS := fun D δ O => we δ O fun w O1 => D.nx (δ.set i (some w)) O1
def dPar (i j : Nat) (wa : DA) : DTS := fun D δ O => wa δ O fun ws O1 => ∃ v u, ws = [v, u] ∧ D.nx ((δ.set i (some v)).set j (some u)) O1
def dNever : DTS := fun _ _ _ => False
def dBreak : DTS := fun D δ O => D.bk δ O
def dCont : DTS := fun D δ O => D.ct δ O
def dgName (i : Nat) : DG := fun w δ O S => S (δ.set i (some w)) O
abbrev DGs := List W → DS → Sto → (DS → Sto → Prop) → Prop
def SGs (K : PySem.W.Frag) (g : TGs) (gd : DGs) : Prop := ∀ F H θ O σ δ v w S, Jn K F H θ O → RS K F θ σ δ → RWs K F θ v w → gd w δ O S → ∀ Q : L2.St → Hp → Prop,
  (∀ F' H' θ' O' σ' δ', Gr F θ F' θ' → Jn K F' H' θ' O' → RS K F' θ' σ' δ' → S δ' O' → Q σ' H') → g v σ H Q
structure EDGs (X : Cx) (tg : List Expr) (gd : DGs) : Prop where
  ex : ∃ g, PGs X tg g ∧ SGs X.K g gd
def dgNil : DGs := fun ws δ O S => ws = [] ∧ S δ O
def dgCons (g : DG) (gs : DGs) : DGs := fun ws δ O S => ∃ w r, ws = w :: r ∧ g w δ O fun δ' O' => gs r δ' O' S
def dgTup (n : Nat) (gs : DGs) : DG := fun w δ O S => ∃ ws, w = .tup ws ∧ ws.length = n ∧ gs ws δ O S
def dAsg (we : DE) (g : DG) : DTS := fun D δ O => we δ O fun w O1 => g w δ O1 D.nx

section
variable {X : Cx} {st : Stmt} {rest : List Stmt} {w1 w2 : DTS} {wt : DT} {we : DE} {wr : DA} {c e : Expr} {es : List Expr} {pos : Pos}
theorem eb_nil : EDB X [] dNext := ⟨_, pss_nil, fun F H θ O σ δ D D' j s q l => l.nx F H θ O σ δ Gr.refl j s q⟩
theorem eb_cons (h : EDS X st w1) (hr : EDB X rest w2) : EDB X (st :: rest) (dSeq w1 w2) := by
  obtain ⟨t1, p1, s1⟩ := h.ex
  obtain ⟨t2, p2, s2⟩ := hr.ex
  refine ⟨_, pss_cons p1 p2, fun F H θ O σ δ D D' j s q l => ?_⟩
  exact s1 F H θ O σ δ _ _ j s q ⟨fun F' H' θ' O' σ' δ' g j' s' q' => s2 F' H' θ' O' σ' δ' D D' j' s' q' (l.mono g), l.rt, l.bk, l.ct⟩
theorem eb_one (h : EDS X st w1) : EDB X [st] w1 := by
  obtain ⟨t1, p1, s1⟩ := h.ex
  exact ⟨_, pss_one p1, s1⟩
theorem eb_never : EDB X rest dNever := ⟨_, pss_never, fun F H θ O σ δ D D' j s q l => q.elim⟩
theorem es_never : EDS X st dNever := ⟨_, ps_never, fun F H θ O σ δ D D' j s q l => q.elim⟩
theorem es_pass : EDS X (.Pass pos) dNext := ⟨_, ps_pass, fun F H θ O σ δ D D' j s q l => l.nx F H θ O σ δ Gr.refl j s q⟩
theorem es_break : EDS X (.Break pos) dBreak := ⟨_, ps_break, fun F H θ O σ δ D D' j s q l => l.bk F H θ O σ δ Gr.refl j s q⟩
theorem es_cont : EDS X (.Continue pos) dCont := ⟨_, ps_continue, fun F H θ O σ δ D D' j s q l => l.ct F H θ O σ δ Gr.refl j s q⟩
theorem es_doc {x j pos pos'} : EDS X (.Expr (.Constant (.str x) j pos) pos') dNext := ⟨_, ps_doc, fun F H θ O σ δ D D' j s q l => l.nx F H θ O σ δ Gr.refl j s q⟩
theorem es_if {a b : List Stmt} (hc : EDT X c wt) (ha : EDB X a w1) (hb : EDB X b w2) : EDS X (.If c a b pos) (dIf wt w1 w2) := by
  obtain ⟨t0, p0, s0⟩ := hc.ex
  obtain ⟨t1, p1, s1⟩ := ha.ex
  obtain ⟨t2, p2, s2⟩ := hb.ex
  refine ⟨_, ps_if p0 p1 p2, fun F H θ O σ δ D D' j s q l => ?_⟩
  refine s0 F H θ O σ δ _ j s q _ fun b F1 H1 θ1 O1 g1 j1 q1 => ?_
  cases b with
  | true => exact s1 F1 H1 θ1 O1 σ δ D D' j1 (s.mono g1) q1 (l.mono g1)
  | false => exact s2 F1 H1 θ1 O1 σ δ D D' j1 (s.mono g1) q1 (l.mono g1)
theorem es_ret (h : ED X e we) : EDS X (.Return (some e) pos) (dRet we) := by
  obtain ⟨t0, p0, s0⟩ := h.ex
  refine ⟨_, ps_ret p0, fun F H θ O σ δ D D' j s q l => ?_⟩
  exact s0 F H θ O σ δ _ j s q _ fun v w F1 H1 θ1 O1 g1 j1 r1 q1 => l.rt F1 H1 θ1 O1 v w g1 j1 r1 q1
theorem es_retN : EDS X (.Return none pos) dRetN := ⟨_, ps_retN, fun F H θ O σ δ D D' j s q l => l.rt F H θ O .non .non Gr.refl j .non q⟩
theorem es_expr (h : ED X e we) (hs : swapsWith e none pos.line X.env = pure false := by rfl) : EDS X (.Expr e pos) (dDrop we) := by
  obtain ⟨t0, p0, s0⟩ := h.ex
  refine ⟨_, ps_expr p0 hs, fun F H θ O σ δ D D' j s q l => ?_⟩
  exact s0 F H θ O σ δ _ j s q _ fun v w F1 H1 θ1 O1 g1 j1 r1 q1 => l.nx F1 H1 θ1 O1 σ δ g1 j1 (s.mono g1) q1
theorem es_set {i : Nat} {x : Str} {pos' : Pos} (hN : X.N.Nodup) (hi : X.N[i]? = some x) (hx : Loc X.env.scope x) (h : ED X e we) (hs : swapsWith e (some (.Name x pos')) pos.line X.env = pure false := by rfl)
    (hf : X.fn x = true ∨ X.env.scope.names.lookup x = some .local := by first | exact .inl rfl | exact .inr rfl | assumption) : EDS X (.Assign [.Name x pos'] e pos) (dSet i we) := by
  obtain ⟨t0, p0, s0⟩ := h.ex
  refine ⟨_, ps_set hN hi hx p0 hs hf, fun F H θ O σ δ D D' j s q l => ?_⟩
  exact s0 F H θ O σ δ _ j s q _ fun v w F1 H1 θ1 O1 g1 j1 r1 q1 => l.nx F1 H1 θ1 O1 _ _ g1 j1 ((s.mono g1).set i r1) q1
theorem es_par {i j : Nat} {x y : Str} {a b : Expr} {px py pt : Pos} {kt k2 pt2} (hc : X.calm = true) (hN : X.N.Nodup) (hi : X.N[i]? = some x) (hj : X.N[j]? = some y) (hij : i ≠ j)
    (hx : X.env.scope.names.lookup x = some .local) (hy : X.env.scope.names.lookup y = some .local) (ha : EDA X [a, b] wr)
    (hw : swappedStores [.Tuple [.Name x px, .Name y py] kt pt] (.Tuple [a, b] k2 pt2) X.env = pure (some [x, y]) := by rfl)
    (hs : swapsWithSole [.Tuple [.Name x px, .Name y py] kt pt] (.Tuple [a, b] k2 pt2) pos.line X.env = pure false := by rfl) :
    EDS X (.Assign [.Tuple [.Name x px, .Name y py] kt pt] (.Tuple [a, b] k2 pt2) pos) (dPar i j wr) := by
  obtain ⟨t0, p0, s0⟩ := ha.ex
  refine ⟨_, ps_par hc hN hi hj hij hx hy p0 hw hs, fun F H θ O σ δ D D' jn s q l => ?_⟩
  refine s0 F H θ O σ δ _ jn s q _ fun vs ws F1 H1 θ1 O1 g1 j1 r1 q1 => ?_
  obtain ⟨w, z, rfl, q1⟩ := q1
  obtain ⟨v, u, rfl, rv, ru⟩ := r1.two_inv
  exact ⟨v, u, rfl, l.nx F1 H1 θ1 O1 _ _ g1 j1 (((s.mono g1).set i rv).set j ru) q1⟩
theorem eg_name {i : Nat} {x : Str} (hN : X.N.Nodup) (hi : X.N[i]? = some x) (hx : Loc X.env.scope x) (hf : X.fn x = true ∨ X.env.scope.names.lookup x = some .local := by first | exact .inl rfl | exact .inr rfl | assumption) : EDG X (.Name x pos) (dgName i) :=
  ⟨_, pg_name hN hi hx hf, fun F H θ O σ δ v w S j s r q Q k => k F H θ O _ _ Gr.refl j (s.set i r) q⟩
theorem egs_nil : EDGs X [] dgNil := ⟨_, pgs_nil, fun F H θ O σ δ v w S j s r q Q k => by
  obtain ⟨rfl, q⟩ := q
  cases r
  exact ⟨rfl, k F H θ O _ _ Gr.refl j s q⟩⟩
theorem egs_cons {g : DG} {gs : DGs} (h : EDG X e g) (hr : EDGs X es gs) (hs : (assignEach (e :: es) X.env).map (·.2) = assign e X.env :: (assignEach es X.env).map (·.2) := by rfl) : EDGs X (e :: es) (dgCons g gs) := by
  obtain ⟨t0, p0, s0⟩ := h.ex
  obtain ⟨t1, p1, s1⟩ := hr.ex
  refine ⟨_, pgs_cons p0 p1 hs, fun F H θ O σ δ v w S j s r q Q k => ?_⟩
  obtain ⟨w, z, rfl, q⟩ := q
  cases r with
  | cons r rr =>
    refine ⟨_, _, rfl, s0 F H θ O σ δ _ _ _ j s r q _ fun F1 H1 θ1 O1 σ1 δ1 g1 j1 s1' q1 => ?_⟩
    exact s1 F1 H1 θ1 O1 σ1 δ1 _ _ _ j1 s1' (rr.mono g1) q1 _ fun F2 H2 θ2 O2 σ2 δ2 g2 j2 s2 q2 => k F2 H2 θ2 O2 σ2 δ2 (g1.trans g2) j2 s2 q2
theorem eg_tup {k : Nat} {gs : DGs} {n : Nat} (hc : X.calm = true) (h : EDGs X es gs) (hn : (assignEach es X.env).length = n := by rfl) (hst : (assignEach es X.env).findIdx? (·.1) = none := by rfl) : EDG X (.Tuple es k pos) (dgTup n gs) := by
  obtain ⟨t0, p0, s0⟩ := h.ex
  refine ⟨_, pg_tup hc p0 hn hst, fun F H θ O σ δ v w S j s r q Q k => ?_⟩
  obtain ⟨ws, rfl, hl, q⟩ := q
  obtain ⟨a, vs, rfl, hq, rr⟩ := r.tup_inv
  exact ⟨a, vs, rfl, sqT_sub j hq, by rw [rr.length]; exact hl, s0 F H θ O σ δ _ _ _ j s rr q _ k⟩
theorem es_asg {tg : Expr} {g : DG} (he : ED X e we) (hg : EDG X tg g) (hs : swapsWithSole [tg] e pos.line X.env = pure false := by rfl) (hw : swappedStores [tg] e X.env = pure none := by rfl)
    (h1 : (assignEach [tg] X.env).map (·.2) = [assign tg X.env] := by rfl) : EDS X (.Assign [tg] e pos) (dAsg we g) := by
  obtain ⟨t0, p0, s0⟩ := he.ex
  obtain ⟨t1, p1, s1⟩ := hg.ex
  refine ⟨_, ps_asg p0 p1 hs hw h1, fun F H θ O σ δ D D' j s q l => ?_⟩
  refine s0 F H θ O σ δ _ j s q _ fun v w F1 H1 θ1 O1 g1 j1 r1 q1 => ?_
  exact s1 F1 H1 θ1 O1 σ δ _ _ _ j1 (s.mono g1) r1 q1 _ fun F2 H2 θ2 O2 σ2 δ2 g2 j2 s2 q2 => l.nx F2 H2 θ2 O2 σ2 δ2 (g1.trans g2) j2 s2 q2
end

/-! ### what is walked -/
/-- the items of a walk: the one at turn i (none: it stops) -/
structure Wk where
  at_ : Nat → Sto → Option W
  ok : Sto → Prop := fun _ => True
def SI (K : PySem.W.Frag) (wi : TI) (di : DS → Sto → (Wk → Sto → Prop) → Prop) : Prop := ∀ F H θ O σ δ S, Jn K F H θ O → RS K F θ σ δ → di δ O S → ∀ R : It → Hp → Prop,
  (∀ J w F' H' θ' O', Gr F θ F' θ' → Jn K F' H' θ' O' → S w O' →
    (∀ i F2 H2 θ2 O2, Gr F' θ' F2 θ2 → Jn K F2 H2 θ2 O2 → w.ok O2 → ((w.at_ i O2 = none ∧ J.stop i H2) ∨ ∃ z, w.at_ i O2 = some z ∧ J.go i H2 ∧ ∀ x H3, J.yld i H2 x H3 → ∃ F3 θ3, Gr F2 θ2 F3 θ3 ∧ Jn K F3 H3 θ3 O2 ∧ RW K F3 θ3 x z)) → R J H') → wi σ H R
structure EDI (X : Cx) (tg iter : Expr) (di : DS → Sto → (Wk → Sto → Prop) → Prop) : Prop where
  ex : ∃ wi, PI X tg iter wi ∧ SI X.K wi di
/-- n turns at most, an invariant over the turn, the slots, the store -/
def dFor (di : DS → Sto → (Wk → Sto → Prop) → Prop) (g : DG) (wb : DTS) : DTS := fun D δ O => di δ O fun w O1 => ∃ (n : Nat) (Pv : Nat → DS → Sto → Prop), Pv 0 δ O1 ∧
  ∀ i δ O, Pv i δ O → i ≤ n ∧ w.ok O ∧ (match w.at_ i O with
    | none => D.nx δ O
    | some z => i < n ∧ g z δ O fun δ2 O2 => wb { D with nx := Pv (i + 1), ct := Pv (i + 1), bk := D.nx } δ2 O2)
theorem es_for {X : Cx} {tg iter : Expr} {body : List Stmt} {di : DS → Sto → (Wk → Sto → Prop) → Prop} {g : DG} {wb : DTS} {pos : Pos} (hp : PassesOwn (model X.prog X.w) X.A X.env X.xe) (hc : X.calm = true) (hi : EDI X tg iter di) (hg : EDG X tg g) (hb : EDB X body wb)
    (hs : ∀ x, foldedSetIterable iter X.env x = pure x := by intro _; rfl) : EDS X (.For tg iter body [] pos) (dFor di g wb) := by
  obtain ⟨t0, p0, s0⟩ := hi.ex
  obtain ⟨t1, p1, s1⟩ := hg.ex
  obtain ⟨t2, p2, s2⟩ := hb.ex
  refine ⟨_, ps_for hp hc p0 p1 p2 hs, fun F H θ O σ δ D D' j s q l => ?_⟩
  refine s0 F H θ O σ δ _ j s q _ fun J w F1 H1 θ1 O1 g1 j1 q1 turn => ?_
  obtain ⟨n, Pv, h0, hq⟩ := q1
  refine ⟨fun i m σ' H' => m = n - i ∧ ∃ F' θ' O' δ', Gr F1 θ1 F' θ' ∧ Jn X.K F' H' θ' O' ∧ RS X.K F' θ' σ' δ' ∧ Pv i δ' O', ⟨n, by omega, F1, θ1, O1, δ, Gr.refl, j1, s.mono g1, h0⟩, ?_⟩
  rintro i m σ2 H2 ⟨rfl, F2, θ2, O2, δ2, g2, j2, s2', pv⟩
  obtain ⟨hin, hok, hm⟩ := hq i δ2 O2 pv
  rcases turn i F2 H2 θ2 O2 g2 j2 hok with ⟨e, st⟩ | ⟨z, e, go, yl⟩
  · rw [e] at hm
    exact .inl ⟨st, l.nx F2 H2 θ2 O2 σ2 δ2 (g1.trans g2) j2 s2' hm⟩
  · rw [e] at hm
    obtain ⟨hlt, hm⟩ := hm
    refine .inr ⟨go, fun σ' H' => ∃ F' θ' O' δ', Gr F1 θ1 F' θ' ∧ Jn X.K F' H' θ' O' ∧ RS X.K F' θ' σ' δ' ∧ Pv (i + 1) δ' O', fun σ' H' h => ⟨n - (i + 1), by omega, rfl, h⟩, fun x H3 hy => ?_⟩
    obtain ⟨F3, θ3, g3, j3, r3⟩ := yl x H3 hy
    refine s1 F3 H3 θ3 O2 σ2 δ2 x z _ j3 (s2'.mono g3) r3 hm _ fun F4 H4 θ4 O4 σ4 δ4 g4 j4 s4 q4 => ?_
    have gg : Gr F1 θ1 F4 θ4 := (g2.trans g3).trans g4
    refine s2 F4 H4 θ4 O4 σ4 δ4 _ _ j4 s4 q4 ⟨fun F' H' θ' O' σ' δ' g' j' s' q' => ⟨F', θ', O', δ', gg.trans g', j', s', q'⟩, fun F' H' θ' O' v w' g' j' r' q' => l.rt F' H' θ' O' v w' ((g1.trans gg).trans g') j' r' q', fun F' H' θ' O' σ' δ' g' j' s' q' => l.nx F' H' θ' O' σ' δ' ((g1.trans gg).trans g') j' s' q', fun F' H' θ' O' σ' δ' g' j' s' q' => ⟨F', θ', O', δ', gg.trans g', j', s', q'⟩⟩

/-- over ints lo, lo + 1, .. -/
def wkR (lo : Int) (n : Nat) : Wk := ⟨fun i _ => if i < n then some (.int (lo + i)) else none, fun _ => True⟩
def wkT (ws : List W) : Wk := ⟨fun i _ => ws[i]?, fun _ => True⟩
/-- the list in a cell, as it stands -/
def wkL (k : Nat) : Wk := ⟨fun i O => match O[k]? with
  | some (.lst ws) => ws[i]?
  | some (.rol ws) => ws[i]?
  | _ => none, fun O => ∃ ws, LstC O k ws⟩
theorem wkL_at {k : Nat} {i : Nat} {O : Sto} {ws : List W} (h : LstC O k ws) : (wkL k).at_ i O = ws[i]? := by
  show (match O[k]? with
    | some (.lst ws) => ws[i]?
    | some (.rol ws) => ws[i]?
    | _ => none) = ws[i]?
  rcases h with h | h <;> rw [h]
def diR1 (wa : DA) : DS → Sto → (Wk → Sto → Prop) → Prop := fun δ O S => wa δ O fun ws O1 => ∃ j : Int, ws = [.int j] ∧ -(2 ^ 62) ≤ j ∧ j < 2 ^ 62 ∧ S (wkR 0 j.toNat) O1
def diR2 (wa : DA) : DS → Sto → (Wk → Sto → Prop) → Prop := fun δ O S => wa δ O fun ws O1 => ∃ i j : Int, ws = [.int i, .int j] ∧ (-(2 ^ 62) ≤ i ∧ i < 2 ^ 62 ∧ -(2 ^ 62) ≤ j ∧ j < 2 ^ 62) ∧ S (wkR i (j - i).toNat) O1
def diT (we : DE) : DS → Sto → (Wk → Sto → Prop) → Prop := fun δ O S => we δ O fun w O1 => ∃ ws, w = .tup ws ∧ S (wkT ws) O1
def diL (we : DE) : DS → Sto → (Wk → Sto → Prop) → Prop := fun δ O S => we δ O fun w O1 => ∃ k ws, w = .cell k ∧ LstC O1 k ws ∧ S (wkL k) O1
theorem turnR {K : PySem.W.Frag} {lo : Int} {n : Nat} {i : Nat} {F2 H2 : Hp} {θ2 : List Addr} {O2 : Sto} (j2 : Jn K F2 H2 θ2 O2) :
    ((wkR lo n).at_ i O2 = none ∧ (Itr lo n).stop i H2) ∨ ∃ z, (wkR lo n).at_ i O2 = some z ∧ (Itr lo n).go i H2 ∧ ∀ x H3, (Itr lo n).yld i H2 x H3 → ∃ F3 θ3, Gr F2 θ2 F3 θ3 ∧ Jn K F3 H3 θ3 O2 ∧ RW K F3 θ3 x z := by
  by_cases h : i < n
  · refine .inr ⟨.int (lo + i), if_pos h, h, fun x H3 hy => ?_⟩
    obtain ⟨rfl, rfl⟩ := hy
    exact ⟨F2, θ2, Gr.refl, j2, .int _⟩
  · exact .inl ⟨if_neg h, by show n ≤ i; omega⟩
section
variable {X : Cx} {tg a b e : Expr} {wa : DA} {we : DE} {p pos : Pos}
theorem ei_range1 (hg : Gl X "range") (hm : X.mg "range" = none) (ha : EDA X [a] wa) (hs : starEach [a] X.env = [(false, eval a X.env)] := by rfl) : EDI X tg (.Call (.Name "range" p) [a] [] pos) (diR1 wa) := by
  obtain ⟨t0, p0, s0⟩ := ha.ex
  refine ⟨_, pi_range1 hg hm p0 hs, fun F H θ O σ δ S j s q R k => ?_⟩
  refine s0 F H θ O σ δ _ j s q _ fun vs ws F1 H1 θ1 O1 g1 j1 r1 q1 => ?_
  obtain ⟨n, rfl, h1, h2, q1⟩ := q1
  obtain ⟨v, rfl, r⟩ := r1.one_inv
  rw [r.int_inv]
  exact ⟨n, rfl, h1, h2, k _ _ F1 H1 θ1 O1 g1 j1 q1 fun i F2 H2 θ2 O2 _ j2 _ => turnR j2⟩
theorem ei_range2 (hg : Gl X "range") (hm : X.mg "range" = none) (ha : EDA X [a, b] wa) (hs : starEach [a, b] X.env = [(false, eval a X.env), (false, eval b X.env)] := by rfl) (hs2 : starEach [b] X.env = [(false, eval b X.env)] := by rfl) : EDI X tg (.Call (.Name "range" p) [a, b] [] pos) (diR2 wa) := by
  obtain ⟨t0, p0, s0⟩ := ha.ex
  refine ⟨_, pi_range2 hg hm p0 hs hs2, fun F H θ O σ δ S j s q R k => ?_⟩
  refine s0 F H θ O σ δ _ j s q _ fun vs ws F1 H1 θ1 O1 g1 j1 r1 q1 => ?_
  obtain ⟨n, m, rfl, h1, q1⟩ := q1
  obtain ⟨v, u, rfl, r, r'⟩ := r1.two_inv
  rw [r.int_inv, r'.int_inv]
  exact ⟨n, m, rfl, h1, k _ _ F1 H1 θ1 O1 g1 j1 q1 fun i F2 H2 θ2 O2 _ j2 _ => turnR j2⟩
theorem ei_tup (h : ED X e we) : EDI X tg e (diT we) := by
  obtain ⟨t0, p0, s0⟩ := h.ex
  refine ⟨_, pi_tup p0, fun F H θ O σ δ S j s q R k => ?_⟩
  refine s0 F H θ O σ δ _ j s q _ fun v w F1 H1 θ1 O1 g1 j1 r1 q1 => ?_
  obtain ⟨ws, rfl, q1⟩ := q1
  obtain ⟨a, vs, rfl, hq, rr⟩ := r1.tup_inv
  refine ⟨a, rfl, ⟨vs, sqT_sub j1 hq⟩, k _ _ F1 H1 θ1 O1 g1 j1 q1 fun i F2 H2 θ2 O2 g2 j2 _ => ?_⟩
  have hq2 : SqT X.K H2 a vs := sqT_sub j2 (sqT_fz g2.fz hq)
  have rr2 := rr.mono g2
  show (ws[i]? = none ∧ _) ∨ ∃ z, ws[i]? = some z ∧ _
  cases h : ws[i]? with
  | none => exact .inl ⟨rfl, vs, hq2, by rw [rr.length]; exact List.getElem?_eq_none_iff.mp h⟩
  | some z =>
    obtain ⟨v, ev, rv⟩ := rr2.get h
    refine .inr ⟨z, rfl, ⟨vs, v, hq2, ev⟩, fun x H3 hy => ?_⟩
    obtain ⟨rfl, hx⟩ := hy
    have e2 := (hx vs hq2).symm.trans ev
    cases e2
    exact ⟨F2, θ2, Gr.refl, j2, rv⟩
theorem ei_lst (h : ED X e we) : EDI X tg e (diL we) := by
  obtain ⟨t0, p0, s0⟩ := h.ex
  refine ⟨_, pi_list p0, fun F H θ O σ δ S j s q R k => ?_⟩
  refine s0 F H θ O σ δ _ j s q _ fun v w F1 H1 θ1 O1 g1 j1 r1 q1 => ?_
  obtain ⟨c, ws, rfl, hc, q1⟩ := q1
  obtain ⟨a, rfl, ha⟩ := r1.cell_inv
  obtain ⟨vs, hl, rr⟩ := j1.lstC ha hc
  refine ⟨a, rfl, ⟨vs, hl⟩, k _ _ F1 H1 θ1 O1 g1 j1 q1 fun i F2 H2 θ2 O2 g2 j2 ok => ?_⟩
  obtain ⟨zs, hz⟩ := ok
  rw [wkL_at hz]
  obtain ⟨us, hu, ru⟩ := j2.lstC (g2.at ha) hz
  cases h : zs[i]? with
  | none => exact .inl ⟨rfl, us, hu, by rw [ru.length]; exact List.getElem?_eq_none_iff.mp h⟩
  | some z =>
    obtain ⟨v, ev, rv⟩ := ru.get h
    refine .inr ⟨z, rfl, ⟨us, v, hu, ev⟩, fun x H3 hy => ?_⟩
    obtain ⟨rfl, hx⟩ := hy
    have e2 := (hx us hu).symm.trans ev
    cases e2
    exact ⟨F2, θ2, Gr.refl, j2, rv⟩
end

/-! ### comprehensions -/
def wipeD (δ : DS) : List Nat → DS
  | [] => δ
  | v :: vs => (wipeD δ vs).set v none
theorem wipeD_some {δ : DS} {i : Nat} {x : W} : ∀ {vs : List Nat}, (wipeD δ vs)[i]? = some (some x) → δ[i]? = some (some x) ∧ i ∉ vs
  | [], h => ⟨h, by simp⟩
  | v :: vs, h => by
    unfold wipeD at h
    by_cases hi : v = i
    · subst hi
      by_cases hv : v < (wipeD δ vs).length
      · rw [List.getElem?_set_self hv] at h; cases h
      · rw [List.getElem?_eq_none (by simpa using hv)] at h; cases h
    · rw [List.getElem?_set_ne hi] at h
      obtain ⟨h1, h2⟩ := wipeD_some h
      exact ⟨h1, by simp only [List.mem_cons, not_or]; exact ⟨fun e => hi e.symm, h2⟩⟩
theorem wipeD_len (δ : DS) : ∀ vs : List Nat, (wipeD δ vs).length = δ.length
  | [] => rfl
  | v :: vs => by unfold wipeD; rw [List.length_set, wipeD_len δ vs]
theorem wipe_keep {σ : L2.St} {i : Nat} : ∀ {vs : List Nat}, i ∉ vs → (wipe σ vs)[i]? = σ[i]?
  | [], _ => rfl
  | v :: vs, h => by
    simp only [List.mem_cons, not_or] at h
    unfold wipe
    rw [List.getElem?_set_ne (fun e => h.1 e.symm)]
    exact wipe_keep h.2
theorem RS.wipe {K : PySem.W.Frag} {F : Hp} {θ : List Addr} {σ : L2.St} {δ : DS} (h : RS K F θ σ δ) (vs : List Nat) : RS K F θ (L2.wipe σ vs) (wipeD δ vs) := by
  refine ⟨by rw [wipe_length, wipeD_len]; exact h.1, fun i w e => ?_⟩
  obtain ⟨e1, n⟩ := wipeD_some e
  rw [wipe_keep n]
  exact h.2 i w e1
/-- a target within a block: it stores at the block's own slots alone -/
def SGc (K : PySem.W.Frag) (g : TG) (gd : DG) (vs : List Nat) : Prop := ∀ F H θ O σ δ v w S, Jn K F H θ O → RS K F θ σ δ → RW K F θ v w → gd w δ O S → ∀ Q : L2.St → Hp → Prop,
  (∀ F' H' θ' O' σ' δ', Gr F θ F' θ' → Jn K F' H' θ' O' → RS K F' θ' σ' δ' → wipe σ' vs = wipe σ vs → S δ' O' → Q σ' H') → g v σ H Q
def SGsc (K : PySem.W.Frag) (g : TGs) (gd : DGs) (vs : List Nat) : Prop := ∀ F H θ O σ δ v w S, Jn K F H θ O → RS K F θ σ δ → RWs K F θ v w → gd w δ O S → ∀ Q : L2.St → Hp → Prop,
  (∀ F' H' θ' O' σ' δ', Gr F θ F' θ' → Jn K F' H' θ' O' → RS K F' θ' σ' δ' → wipe σ' vs = wipe σ vs → S δ' O' → Q σ' H') → g v σ H Q
theorem wipe_set {σ : L2.St} {i : Nat} {x : Option V} : ∀ {vs : List Nat}, i ∈ vs → wipe (σ.set i x) vs = wipe σ vs
  | [], h => by cases h
  | v :: vs, h => by
    unfold wipe
    by_cases e : v = i
    · subst e
      have : ∀ us : List Nat, (wipe (σ.set v x) us).set v none = (wipe σ us).set v none := by
        intro us
        induction us with
        | nil => unfold wipe; rw [List.set_set]
        | cons u us ih =>
          unfold wipe
          by_cases q : u = v
          · subst q
            rw [ih]
          · rw [List.set_comm _ _ q, ih, List.set_comm _ _ (fun z => q z.symm)]
      exact this vs
    · rw [wipe_set ((List.mem_cons.mp h).resolve_left fun z => e z.symm)]
theorem wipe_wipe (σ : L2.St) : ∀ vs : List Nat, wipe (wipe σ vs) vs = wipe σ vs := by
  have : ∀ (us vs : List Nat), (∀ u ∈ us, u ∈ vs) → wipe (wipe σ us) vs = wipe σ vs := by
    intro us
    induction us with
    | nil => intro vs _; rfl
    | cons u us ih =>
      intro vs h
      show wipe ((wipe σ us).set u none) vs = _
      rw [wipe_set (h u List.mem_cons_self)]
      exact ih vs fun z hz => h z (List.mem_cons_of_mem _ hz)
  exact fun vs => this vs vs fun _ h => h
structure EDTs (X : Cx) (ifs : List Expr) (wt : DT) : Prop where
  ex : ∃ tt, PTs X ifs tt ∧ STt X.K tt wt
structure EDGc (X : Cx) (vs : List Nat) (tg : Expr) (gd : DG) : Prop where
  ex : ∃ g, PG X tg g ∧ SGc X.K g gd vs
structure EDGsc (X : Cx) (vs : List Nat) (tg : List Expr) (gd : DGs) : Prop where
  ex : ∃ g, PGs X tg g ∧ SGsc X.K g gd vs
def dYes : DT := fun _ O S => S true O
theorem ets_nil {X : Cx} : EDTs X [] dYes := ⟨_, pts_nil, fun F H θ O σ δ S j s q Q k => k true F H θ O Gr.refl j q⟩
theorem ets_one {X : Cx} {c : Expr} {wt : DT} (h : EDT X c wt) : EDTs X [c] wt := let ⟨t, p, s⟩ := h.ex; ⟨t, pts_one p, s⟩
section
variable {X : Cx} {vs : List Nat} {e : Expr} {es : List Expr} {pos : Pos}
theorem egc_name {i : Nat} {x : Str} (hm : i ∈ vs) (hN : X.N.Nodup) (hi : X.N[i]? = some x) (hx : Loc X.env.scope x) (hf : X.fn x = true ∨ X.env.scope.names.lookup x = some .local := by first | exact .inl rfl | exact .inr rfl | assumption) : EDGc X vs (.Name x pos) (dgName i) :=
  ⟨_, pg_name hN hi hx hf, fun F H θ O σ δ v w S j s r q Q k => k F H θ O _ _ Gr.refl j (s.set i r) (wipe_set hm) q⟩
theorem egsc_nil : EDGsc X vs [] dgNil := ⟨_, pgs_nil, fun F H θ O σ δ v w S j s r q Q k => by
  obtain ⟨rfl, q⟩ := q
  cases r
  exact ⟨rfl, k F H θ O _ _ Gr.refl j s rfl q⟩⟩
theorem egsc_cons {g : DG} {gs : DGs} (h : EDGc X vs e g) (hr : EDGsc X vs es gs) (hs : (assignEach (e :: es) X.env).map (·.2) = assign e X.env :: (assignEach es X.env).map (·.2) := by rfl) : EDGsc X vs (e :: es) (dgCons g gs) := by
  obtain ⟨t0, p0, s0⟩ := h.ex
  obtain ⟨t1, p1, s1⟩ := hr.ex
  refine ⟨_, pgs_cons p0 p1 hs, fun F H θ O σ δ v w S j s r q Q k => ?_⟩
  obtain ⟨w, z, rfl, q⟩ := q
  cases r with
  | cons r rr =>
    refine ⟨_, _, rfl, s0 F H θ O σ δ _ _ _ j s r q _ fun F1 H1 θ1 O1 σ1 δ1 g1 j1 s1' e1 q1 => ?_⟩
    exact s1 F1 H1 θ1 O1 σ1 δ1 _ _ _ j1 s1' (rr.mono g1) q1 _ fun F2 H2 θ2 O2 σ2 δ2 g2 j2 s2 e2 q2 => k F2 H2 θ2 O2 σ2 δ2 (g1.trans g2) j2 s2 (e2.trans e1) q2
theorem egc_tup {k : Nat} {gs : DGs} {n : Nat} (hc : X.calm = true) (h : EDGsc X vs es gs) (hn : (assignEach es X.env).length = n := by rfl) (hst : (assignEach es X.env).findIdx? (·.1) = none := by rfl) : EDGc X vs (.Tuple es k pos) (dgTup n gs) := by
  obtain ⟨t0, p0, s0⟩ := h.ex
  refine ⟨_, pg_tup hc p0 hn hst, fun F H θ O σ δ v w S j s r q Q k => ?_⟩
  obtain ⟨ws, rfl, hl, q⟩ := q
  obtain ⟨a, vs, rfl, hq, rr⟩ := r.tup_inv
  exact ⟨a, vs, rfl, sqT_sub j hq, by rw [rr.length]; exact hl, s0 F H θ O σ δ _ _ _ j s rr q _ k⟩
end
abbrev Blk (X : Cx) (scope : Scope) := fun (s : Shared) (H : Hp) (C : Addr) (cl : List (Str × Addr)) (fp : List Addr) => X.blk s H scope (compEnvC scope cl C X.env) fp
theorem uni_e {X : Cx} {scope : Scope} {e : Expr} {we : DE} (h : ∀ s H C cl fp, ED (Blk X scope s H C cl fp) e we) : ∃ te, (∀ s H C cl fp, PE (Blk X scope s H C cl fp) e te) ∧ SE X.K te we :=
  ⟨fun σ H Q => ∀ s H0 C cl fp, Classical.choose (h s H0 C cl fp).ex σ H Q, fun s H0 C cl fp => ⟨fun pins s' σ H Q I hw => (Classical.choose_spec (h s H0 C cl fp).ex).1.run pins s' σ H Q I (hw s H0 C cl fp)⟩,
    fun F H θ O σ δ S j r q Q k s H0 C cl fp => (Classical.choose_spec (h s H0 C cl fp).ex).2 F H θ O σ δ S j r q Q k⟩
theorem uni_t {X : Cx} {scope : Scope} {e : List Expr} {wt : DT} (h : ∀ s H C cl fp, EDTs (Blk X scope s H C cl fp) e wt) : ∃ te, (∀ s H C cl fp, PTs (Blk X scope s H C cl fp) e te) ∧ STt X.K te wt :=
  ⟨fun σ H Q => ∀ s H0 C cl fp, Classical.choose (h s H0 C cl fp).ex σ H Q, fun s H0 C cl fp => ⟨fun pins s' σ H Q I hw => (Classical.choose_spec (h s H0 C cl fp).ex).1.run pins s' σ H Q I (hw s H0 C cl fp)⟩,
    fun F H θ O σ δ S j r q Q k s H0 C cl fp => (Classical.choose_spec (h s H0 C cl fp).ex).2 F H θ O σ δ S j r q Q k⟩
theorem uni_g {X : Cx} {scope : Scope} {e : Expr} {gd : DG} {vs : List Nat} (h : ∀ s H C cl fp, EDGc (Blk X scope s H C cl fp) vs e gd) : ∃ te, (∀ s H C cl fp, PG (Blk X scope s H C cl fp) e te) ∧ SGc X.K te gd vs :=
  ⟨fun v σ H Q => ∀ s H0 C cl fp, Classical.choose (h s H0 C cl fp).ex v σ H Q, fun s H0 C cl fp => ⟨fun pins s' σ H v u Q I r hw => (Classical.choose_spec (h s H0 C cl fp).ex).1.run pins s' σ H v u Q I r (hw s H0 C cl fp)⟩,
    fun F H θ O σ δ v w S j r rw' q Q k s H0 C cl fp => (Classical.choose_spec (h s H0 C cl fp).ex).2 F H θ O σ δ v w S j r rw' q Q k⟩
/-- [elt for tg in iter if ..]: the new list is a cell from the start; an invariant over the turn and the store -/
def dLc (di : DS → Sto → (Wk → Sto → Prop) → Prop) (g : DG) (wt : DT) (we : DE) (vs : List Nat) : DE := fun δ O S => di δ O fun w O1 => ∃ (n : Nat) (Pv : Nat → Sto → Prop), Pv 0 (O1 ++ [.lst []]) ∧
  ∀ i O, Pv i O → i ≤ n ∧ w.ok O ∧ (match w.at_ i O with
    | none => S (.cell O1.length) O
    | some z => i < n ∧ g z (wipeD δ vs) O fun δ2 O2 => wt δ2 O2 fun b O3 => if b = true then we δ2 O3 fun y O4 => ∃ acc, O4[O1.length]? = some (.lst acc) ∧ acc.length < sizeLine ∧ Pv (i + 1) (O4.set O1.length (.lst (acc ++ [y]))) else Pv (i + 1) O3)
theorem lc_sound {K : PySem.W.Frag} {wi : TI} {di : DS → Sto → (Wk → Sto → Prop) → Prop} {g : TG} {gd : DG} {tt : TT} {wt : DT} {te : TE} {we : DE} {vs : List Nat} (s0 : SI K wi di) (s1 : SGc K g gd vs) (s2 : STt K tt wt) (s3 : SE K te we) : SE K (tLc wi g tt te vs) (dLc di gd wt we vs) := by
  intro F H θ O σ δ S j s q Q k
  refine s0 F H θ O σ δ _ j s q _ fun J w F1 H1 θ1 O1 g1 j1 q1 turn D hD => ?_
  obtain ⟨n, Pv, h0, hq⟩ := q1
  have gp : Gr F1 θ1 F1 (θ1 ++ [D]) := Gr.push
  have hk0 : (θ1 ++ [D])[O1.length]? = some D := by
    rw [← j1.len]
    simp
  refine ⟨fun i m H' => m = n - i ∧ ∃ F' θ' O', Gr F1 (θ1 ++ [D]) F' θ' ∧ Jn K F' H' θ' O' ∧ Pv i O', ⟨n, by omega, F1, _, _, Gr.refl, j1.newL hD .nil, h0⟩, ?_⟩
  rintro i m H2 ⟨rfl, F2, θ2, O2, g2, j2, pv⟩
  obtain ⟨hin, hok, hm⟩ := hq i O2 pv
  have gA : Gr F1 θ1 F2 θ2 := gp.trans g2
  rcases turn i F2 H2 θ2 O2 gA j2 hok with ⟨e, st⟩ | ⟨z, e, go, yl⟩
  · rw [e] at hm
    exact .inl ⟨st, k (.ref D) _ F2 H2 θ2 O2 (g1.trans gA) j2 (.cell (g2.at hk0)) hm⟩
  · rw [e] at hm
    obtain ⟨hlt, hm⟩ := hm
    refine .inr ⟨go, fun H' => ∃ F' θ' O', Gr F1 (θ1 ++ [D]) F' θ' ∧ Jn K F' H' θ' O' ∧ Pv (i + 1) O', fun H' h => ⟨n - (i + 1), by omega, rfl, h⟩, fun x H3 hy => ?_⟩
    obtain ⟨F3, θ3, g3, j3, r3⟩ := yl x H3 hy
    have s3' := ((s.mono (g1.trans (gA.trans g3))).wipe vs)
    refine s1 F3 H3 θ3 O2 _ _ x z _ j3 s3' r3 hm _ fun F4 H4 θ4 O4 σ4 δ4 g4 j4 s4 e4 q4 => ⟨e4.trans (wipe_wipe σ vs), ?_⟩
    refine s2 F4 H4 θ4 O4 σ4 δ4 _ j4 s4 q4 _ fun b F5 H5 θ5 O5 g5 j5 q5 => ?_
    have g25 : Gr F1 (θ1 ++ [D]) F5 θ5 := ((g2.trans g3).trans g4).trans g5
    cases b with
    | false => exact ⟨F5, θ5, O5, g25, j5, q5⟩
    | true =>
      refine s3 F5 H5 θ5 O5 σ4 δ4 _ j5 (s4.mono g5) q5 _ fun y wy F6 H6 θ6 O6 g6 j6 r6 q6 => ?_
      obtain ⟨acc, ha, hz, pv6⟩ := q6
      have hD6 : θ6[O1.length]? = some D := (g25.trans g6).at hk0
      obtain ⟨f6, us, hu, ru⟩ := j6.lst hD6 ha
      exact ⟨us, hu, by rw [ru.length]; exact hz, F6, θ6, _, g25.trans g6, j6.putL hD6 f6 (ru.append (.cons r6 .nil)), pv6⟩
section
variable {X : Cx} {elt tg iter : Expr} {ifs : List Expr} {scope : Scope} {own : List (Str × Nat)} {pos : Pos} {di : DS → Sto → (Wk → Sto → Prop) → Prop} {gd : DG} {wt : DT} {we : DE}
theorem ed_lc (hc : X.calm = true) (hN : X.N.Nodup) (hi : EDI X tg iter di) (ok : BlkOk X.N X.env.scope scope own) (hg : ∀ s H C cl fp, EDGc (Blk X scope s H C cl fp) (own.map (·.2)) tg gd) (ht : ∀ s H C cl fp, EDTs (Blk X scope s H C cl fp) ifs wt)
    (he : ∀ s H C cl fp, ED (Blk X scope s H C cl fp) elt we) (hs : ∀ x, foldedSetIterable iter X.env x = pure x := by intro _; rfl) : ED X (.ListComp elt [⟨tg, iter, ifs, 0⟩] scope pos) (dLc di gd wt we (own.map (·.2))) := by
  obtain ⟨t0, p0, s0⟩ := hi.ex
  obtain ⟨t1, p1, s1⟩ := uni_g hg
  obtain ⟨t2, p2, s2⟩ := uni_t ht
  obtain ⟨t3, p3, s3⟩ := uni_e he
  exact ⟨_, pe_lc hc hN p0 ok p1 p2 p3 hs, lc_sound s0 s1 s2 s3⟩
theorem es_setLc {i : Nat} {y : Str} {py spos : Pos} (hc : X.calm = true) (hN : X.N.Nodup) (hy : X.N[i]? = some y) (hyl : X.env.scope.names.lookup y = some .local) (hsw : swapsWith (.ListComp elt [⟨tg, iter, ifs, 0⟩] scope pos) (some (.Name y py)) spos.line X.env = pure true)
    (hi : EDI X tg iter di) (ok : BlkOk X.N X.env.scope scope own) (hg : ∀ s H C cl fp, EDGc (Blk X scope s H C cl fp) (own.map (·.2)) tg gd) (ht : ∀ s H C cl fp, EDTs (Blk X scope s H C cl fp) ifs wt)
    (he : ∀ s H C cl fp, ED (Blk X scope s H C cl fp) elt we) (hs : ∀ x, foldedSetIterable iter X.env x = pure x := by intro _; rfl) : EDS X (.Assign [.Name y py] (.ListComp elt [⟨tg, iter, ifs, 0⟩] scope pos) spos) (dSet i (dLc di gd wt we (own.map (·.2)))) := by
  obtain ⟨t0, p0, s0⟩ := hi.ex
  obtain ⟨t1, p1, s1⟩ := uni_g hg
  obtain ⟨t2, p2, s2⟩ := uni_t ht
  obtain ⟨t3, p3, s3⟩ := uni_e he
  refine ⟨_, ps_setLc hc hN hy hyl hsw p0 ok p1 p2 p3 hs, fun F H θ O σ δ D D' j s q l => ?_⟩
  exact lc_sound s0 s1 s2 s3 F H θ O σ δ _ j s q _ fun v w F1 H1 θ1 O1 g1 j1 r1 q1 => l.nx F1 H1 θ1 O1 _ _ g1 j1 ((s.mono g1).set i r1) q1
end
end Dm

set_option Elab.async false
set_option linter.all false
set_option maxRecDepth 100000
set_option maxHeartbeats 4000000
/-! The data machine: what a def promises over the data, its body, its calls, the law's own call. -/
namespace Dm
open PySem PySem.Spec PyProof.Rows L2

/-- a promise over the data: the arguments, the store, what is wanted of the answer and the store behind -/
abbrev SpD := List W → Sto → WK → Prop
/-- the same over the heap -/
def lift (K : PySem.W.Frag) (sp : SpD) (vs : List V) (H : Hp) (Q : VK) : Prop :=
  ∃ F θ O ws S, Jn K F H θ O ∧ RWs K F θ vs ws ∧ sp ws O S ∧ ∀ v w F' H' θ' O', Gr F θ F' θ' → Jn K F' H' θ' O' → RW K F' θ' v w → S w O' → Q v H'
/-- what is around a call: room, no guards -/
structure RoomG (k : Nat) (A : Around) : Prop where
  r : Room k A
  g : A.guards = some []
theorem RoomG.mono {j k : Nat} {A : Around} (h : RoomG k A) (l : j ≤ k) : RoomG j A := ⟨h.r.mono l, h.g⟩
theorem RoomG.deeper {k : Nat} {A : Around} (h : RoomG (k + 1) A) (env : Env) : RoomG k (A.deeper env) := ⟨h.r.deeper env, h.g⟩
structure FnG (P : Program) (w : World) (K : PySem.W.Frag) (mg : Str → Option Value) (base : Heap) (k : Nat) (f : Addr) (fd : FuncData) (ps : List Str) (sp : SpD) : Prop where
  len : ∀ ws O S, sp ws O S → ws.length = ps.length
  run : ∀ (A : Around) (outer : List Env) (s : Shared) (H : Hp) (args : Args) (us : List Value) (vs : List V) (Q : VK), RoomG k A → Env0 P w K mg base A outer s H → BindsTo s fd args (ps.zip us) → Vals vs us → lift K sp vs H Q →
    codeAny (model P w) A (.call (.ref f) args) (CR CX0 outer P w H s Q E0) s
theorem FnG.mono {P : Program} {w : World} {K : PySem.W.Frag} {mg : Str → Option Value} {base : Heap} {j k : Nat} {f : Addr} {fd : FuncData} {ps : List Str} {sp : SpD} (F : FnG P w K mg base j f fd ps sp) (h : j ≤ k) : FnG P w K mg base k f fd ps sp :=
  ⟨F.len, fun A outer s H args us vs Q hr => F.run A outer s H args us vs Q (hr.mono h)⟩
theorem FnG.imp {P : Program} {w : World} {K : PySem.W.Frag} {mg : Str → Option Value} {base : Heap} {k : Nat} {f : Addr} {fd : FuncData} {ps : List Str} {sp sp' : SpD} (F : FnG P w K mg base k f fd ps sp) (h : ∀ ws O S, sp' ws O S → sp ws O S) : FnG P w K mg base k f fd ps sp' :=
  ⟨fun ws O S q => F.len ws O S (h _ _ _ q), fun A outer s H args us vs Q hr he hb hv ⟨F0, θ, O, ws, S, j, r, q, k⟩ => F.run A outer s H args us vs Q hr he hb hv ⟨F0, θ, O, ws, S, j, r, h _ _ _ q, k⟩⟩
/-- the slots at the entry -/
def startD (N : List Str) (ws : List W) : DS := ws.map some ++ List.replicate (N.length - ws.length) none
theorem rs_start {K : PySem.W.Frag} {F : Hp} {θ : List Addr} {N : List Str} {vs : List V} {ws : List W} (r : RWs K F θ vs ws) : RS K F θ (L2.start N vs) (startD N ws) := by
  unfold L2.start startD
  refine ⟨by simp [r.length], fun i w e => ?_⟩
  by_cases h : i < ws.length
  · rw [List.getElem?_append_left (by simpa using h), List.getElem?_map] at e
    cases q : ws[i]? with
    | none => rw [q] at e; cases e
    | some z =>
      rw [q] at e
      cases e
      obtain ⟨v, hv, rv⟩ := r.get q
      exact ⟨v, by rw [List.getElem?_append_left (by rw [List.length_map, r.length]; exact h), List.getElem?_map, hv]; rfl, rv⟩
  · rw [List.getElem?_append_right (by simpa using h), List.getElem?_replicate] at e
    split at e <;> cases e
section
variable {P : Program} {w : World} {K : PySem.W.Frag} {mg : Str → Option Value} {base : Heap}
/-- the context of a def's body where nothing may be raised -/
abbrev cxD (P : Program) (w : World) (K : PySem.W.Frag) (mg : Str → Option Value) (base : Heap) (N : List Str) (qual : Str) (scope : Scope) (f : Addr) (cd : Value) (A : Around) (outer : List Env) (s : Shared) (H : Hp) : Cx :=
  (cxOf CX0 P w K mg base N qual scope f cd A outer s H E0).nox
/-- THE RULE: a def by its body -/
theorem FunG {x qual : Str} {params : Arguments} {body : List Stmt} {scope : Scope} {dvs : List V} {kws : List (Str × V)} {f : Addr} {fd : FuncData} {N ps : List Str} {k : Nat} {sp : SpD} (F : FunD K x qual params body scope dvs kws f fd) (S : FnScope N ps scope)
    (len : ∀ ws O S, sp ws O S → ws.length = ps.length)
    (hbody : ∀ (cdv : Value) (A : Around) (outer : List Env) (s : Shared) (H : Hp), RoomG k (A.deeper (envOfC qual scope s.heap.objs.size f cdv)) →
      ∃ wb, EDB (cxD P w K mg base N qual scope f cdv A outer s H) body wb ∧ ∀ ws O S, sp ws O S → wb { nx := fun _ O' => S .non O', rt := S } (startD N ws) O) : FnG P w K mg base (k + 1) f fd ps sp := by
  obtain ⟨oc, od, dV, kV, doc, pm, an, cdv, ct, osl, rfl, lk, hcd, _, _⟩ := F.ex
  refine ⟨len, fun A outer s H args us vs Q hr e0 hb r hsp => ?_⟩
  obtain ⟨F0, θ, O, ws, S', jn, rr, q, fin⟩ := hsp
  have hl : vs.length = ps.length := rr.length.trans (len _ _ _ q)
  have KX : K.In s.heap := e0.mod.kin.keeps fun b o e => (e0.bs b o e).1
  have lim : s.heap.NoLimit := e0.mod.nolimit.keeps fun b o e => (e0.bs b o e).1
  have hkind : ∀ y ∈ ps.zip us, scope.names.lookup y.1 = some .local ∨ (scope.names.lookup y.1 = some .cell ∧ ((cellsFrom (s.heap.objs.size + 1) scope.names []).lookup y.1).isSome = true) := by
    rintro ⟨n, v⟩ hy
    rcases S.par n (List.of_mem_zip hy).1 with q | q
    · exact .inl q
    · exact .inr ⟨q, PySem.W.cellsFrom_some _ _ _ (.inl q)⟩
  refine codeAny_call_function hr.r.depth (KX _ _ lk) rfl S.co S.gen rfl (PySem.W.codeRec_of KX hcd) (hb _ _ _ _ ?_)
  refine wpAny_newFunctionEnv_cells S.kind hkind fun env he s1 x => ?_
  subst he
  refine ⟨lim.keeps x.toInCall.keep, codeAny_func ?_⟩
  obtain ⟨wb, hB, hW⟩ := hbody cdv A outer s H (hr.deeper _)
  obtain ⟨t, ht, hs⟩ := hB.ex
  have I := (inv_start (CX := CX0) (E := E0) S hr.r.hd e0 hl r x).wish fun _ _ => False
  have hq : t { nx := fun _ H' => Q .non H', rt := Q } (L2.start N vs) H := hs F0 H θ O _ _ _ _ jn (rs_start rr) (hW ws O S' q)
    ⟨fun F' H' θ' O' σ δ g j' s' q' => fin _ _ F' H' θ' O' g j' .non q', fun F' H' θ' O' v w' g j' r' q' => fin v w' F' H' θ' O' g j' r' q', fun _ _ _ _ _ _ _ _ _ z => z, fun _ _ _ _ _ _ _ _ _ z => z⟩
  refine wpAny_mono (ht.run [] s1 (L2.start N vs) H _ I hq) (fun fl s' hs' => ?_) fun e s' z => False.elim z
  cases fl with
  | ret u =>
    obtain ⟨v, σ', H', J, rv, q⟩ := hs'
    exact ⟨v, H', J.os, J.bare, J.base, J.hok, rv, q⟩
  | next =>
    obtain ⟨σ', H', J, q⟩ := hs'
    exact ⟨V.non, H', J.os, J.bare, J.base, J.hok, rfl, q⟩
  | brk =>
    obtain ⟨_, _, _, q⟩ := hs'
    exact q.elim
  | cont =>
    obtain ⟨_, _, _, q⟩ := hs'
    exact q.elim
end
/-! ### calls -/
def dCall (sp : SpD) (wa : DA) : DE := fun δ O S => wa δ O fun ws O1 => sp ws O1 S
def dCallK (sp : SpD) (g : List W → List W → List W) (wa wk : DA) : DE := fun δ O S => wa δ O fun ws O1 => wk δ O1 fun zs O2 => sp (g ws zs) O2 S
structure EDK (X : Cx) (kws : List Keyword) (wa : DA) : Prop where
  ex : ∃ ta, PK X kws ta ∧ SA X.K ta wa
section
variable {X : Cx} {k : Nat} {f : Addr} {fd : FuncData} {ps ks : List Str} {sp : SpD} {x : Str} {p pos kpos : Pos} {e : Expr} {es : List Expr} {kws : List Keyword} {wa wk : DA} {we : DE} {nm : Option Str}
/-- a call's reading over the heap -/
def tCallG (K : PySem.W.Frag) (sp : SpD) (t : TA) : TE := fun σ H Q => t σ H fun vs H1 => lift K sp vs H1 Q
def tCallKG (K : PySem.W.Frag) (sp : SpD) (gV : List V → List V → List V) (t tk : TA) : TE := fun σ H Q => t σ H fun vs H1 => tk σ H1 fun zs H2 => lift K sp (gV vs zs) H2 Q
theorem runG {pins : List (Addr × Obj)} {σ : L2.St} {H : Hp} {s : Shared} {Q : VK} {us bs : List Value} {kw : List (Str × Value)} {vs : List V} (F : FnG X.prog X.w X.K X.mg X.base k f fd ps sp) (hr : RoomG k X.A) (hb : BindsTo s fd ⟨us, kw⟩ (ps.zip bs))
    (I : Inv X pins σ H s) (r : Vals vs bs) (h : lift X.K sp vs H Q) : wpAny (model X.prog X.w) X.A (call (.ref f) us kw) (EP X pins σ Q) X.xe s := by
  refine wpAny_call (codeAny_mono (F.run X.A X.stack s H ⟨us, kw⟩ bs vs Q hr I.env0 hb r h) fun r s' hq => ?_)
  cases r with
  | error e => exact (show False from hq).elim
  | ok fl =>
    cases fl with
    | ret u => exact I.after hq
    | next => exact False.elim hq
    | brk => exact False.elim hq
    | cont => exact False.elim hq
theorem lift_len {K : PySem.W.Frag} {vs : List V} {H : Hp} {Q : VK} {P : Program} {w : World} {mg : Str → Option Value} {base : Heap} (F : FnG P w K mg base k f fd ps sp) (h : lift K sp vs H Q) : vs.length = ps.length := by
  obtain ⟨F0, θ, O, ws, S, j, r, q, _⟩ := h
  exact r.length.trans (F.len _ _ _ q)
theorem pe_callG (F : FnG X.prog X.w X.K X.mg X.base k f fd ps sp) (hr : RoomG k X.A) (hg : Gl X x) (hm : X.mg x = some (.ref f)) (hk : PySem.W.keepIn X.K (.ref f) = true) (hb : Binds X.K fd ps []) {t : TA} (ha : PA X (e :: es) t)
    (hdb : (x == ("__debug__" : Str)) = false := by decide) (he : starEach (e :: es) X.env = (false, eval e X.env) :: starEach es X.env := by rfl) (hpl : (backTo pos (starEach es X.env)).any (·.1) = false := by rfl) :
    PE X (.Call (.Name x p) (e :: es) [] pos) (tCallG X.K sp t) := by
  refine ⟨fun pins s σ H Q I h => ?_⟩
  refine wpAny_Call_Name_kw (ld_glob I hg hm ?_ hdb)
  refine PySem.W.callWith_K (h₀ := X.base) I.ok.mod.kin hk (thn (ha.run pos pins s σ H _ I h) fun us s1 ⟨vs, H1, I1, r, q⟩ => ⟨I1.kIn, ?_⟩) he hpl
  have hl := hb s1 us I1.kIn (by rw [List.append_nil, ← r.length]; exact lift_len F q)
  rw [List.append_nil] at hl
  exact runG F hr hl I1 r q
theorem ed_call (F : FnG X.prog X.w X.K X.mg X.base k f fd ps sp) (hr : RoomG k X.A) (hg : Gl X x) (hm : X.mg x = some (.ref f)) (hk : PySem.W.keepIn X.K (.ref f) = true) (hb : Binds X.K fd ps []) (ha : EDA X (e :: es) wa)
    (hdb : (x == ("__debug__" : Str)) = false := by decide) (he : starEach (e :: es) X.env = (false, eval e X.env) :: starEach es X.env := by rfl) (hpl : (backTo pos (starEach es X.env)).any (·.1) = false := by rfl) :
    ED X (.Call (.Name x p) (e :: es) [] pos) (dCall sp wa) := by
  obtain ⟨t0, p0, s0⟩ := ha.ex
  refine ⟨_, pe_callG F hr hg hm hk hb p0 hdb he hpl, fun F0 H θ O σ δ S j s q Q kk => ?_⟩
  exact s0 F0 H θ O σ δ _ j s q _ fun vs ws F1 H1 θ1 O1 g1 j1 r1 q1 => ⟨F1, θ1, O1, ws, S, j1, r1, q1, fun v w F2 H2 θ2 O2 g2 j2 r2 q2 => kk v w F2 H2 θ2 O2 (g1.trans g2) j2 r2 q2⟩
theorem ek_nil : EDK X [] dNil := ⟨_, pk_nil, fun F H θ O σ δ S j s q Q k => k [] [] F H θ O Gr.refl j .nil q⟩
theorem ek_cons (h : ED X e we) (hr : EDK X kws wk) : EDK X (⟨nm, e, kpos⟩ :: kws) (dCons we wk) := by
  obtain ⟨t, p, s⟩ := h.ex
  obtain ⟨t2, p2, s2⟩ := hr.ex
  refine ⟨_, pk_cons p p2, fun F H θ O σ δ S j r q Q k => ?_⟩
  refine s F H θ O σ δ _ j r q _ fun v w F1 H1 θ1 O1 g1 j1 r1 q1 => ?_
  exact s2 F1 H1 θ1 O1 σ δ _ j1 (r.mono g1) q1 _ fun vs ws F2 H2 θ2 O2 g2 j2 r2 q2 => k _ _ F2 H2 θ2 O2 (g1.trans g2) j2 (.cons (r1.mono g2) r2) q2
end
end Dm

set_option Elab.async false
set_option linter.all false
set_option maxRecDepth 100000
set_option maxHeartbeats 4000000
/-! The data machine: operators, subscripts, methods, built-ins. -/
namespace Dm
open PySem PySem.Spec PyProof.Rows L2

/-! ### operators on ints -/
def rdI (C : Int → Int → Prop) (g : Int → Int → W) : R2D := fun x y O S => ∃ i j, x = .int i ∧ y = .int j ∧ C i j ∧ S (g i j) O
def rdI0 (g : Int → Int → W) : R2D := fun x y O S => ∃ i j, x = .int i ∧ y = .int j ∧ S (g i j) O
theorem sr_I {K : PySem.W.Frag} {C : Int → Int → Prop} {g : Int → Int → V} {gd : Int → Int → W} (h : ∀ F θ i j, RW K F θ (g i j) (gd i j)) : SR2 K (rI C g) (rdI C gd) := by
  intro F H θ O x y v u S j rx ry q Q k
  obtain ⟨i, l, rfl, rfl, hc, q⟩ := q
  exact ⟨i, l, rx.int_inv, ry.int_inv, hc, k _ _ F H θ O Gr.refl j (h F θ i l) q⟩
theorem sr_I0 {K : PySem.W.Frag} {g : Int → Int → V} {gd : Int → Int → W} (h : ∀ F θ i j, RW K F θ (g i j) (gd i j)) : SR2 K (rI0 g) (rdI0 gd) := by
  intro F H θ O x y v u S j rx ry q Q k
  obtain ⟨i, l, rfl, rfl, q⟩ := q
  exact ⟨i, l, rx.int_inv, ry.int_inv, k _ _ F H θ O Gr.refl j (h F θ i l) q⟩
/-- products below a hundred million bits -/
def CMulB (i j : Int) : Prop := i.natAbs.log2 + j.natAbs.log2 < 100000000
theorem CMulB.ok {i j : Int} (h : CMulB i j) : IntMulOk i j := by
  have b : ∀ x : Int, Builtin.Int.intBits x ≤ x.natAbs.log2 + 1 := fun x => by
    unfold Builtin.Int.intBits
    split <;> omega
  have h1 := b i
  have h2 := b j
  have h3 : i.natAbs.log2 + j.natAbs.log2 < 100000000 := h
  have e : bitsLine = 134217728 := by decide
  intro z
  rw [Bool.and_eq_true] at z
  have z2 := of_decide_eq_true (show decide (_ > _) = true from z.2)
  rw [e] at z2
  omega
section
variable {X : Cx} {a b c e : Expr} {es : List Expr} {wa wb we : DE} {wr : DA} {pos : Pos}
theorem op_mulB : OpR X (binaryOp .Mult) (rI CMulB fun i j => .int (i * j)) := opI fun _ _ _ _ _ _ _ hc q => mul_int q hc.ok
abbrev dAdd := dOp (rdI0 fun i j => .int (i + j))
abbrev dSub := dOp (rdI0 fun i j => .int (i - j))
abbrev dMul := dOp (rdI CMulB fun i j => .int (i * j))
abbrev dDiv := dOp (rdI CDivW fun i j => .int (i / j))
abbrev dMod := dOp (rdI (fun _ j => 0 < j) fun i j => .int (i % j))
abbrev dPow := dOp (rdI CPow fun i j => .int (i ^ j.toNat))
theorem ed_add (ha : ED X a wa) (hb : ED X b wb) : ED X (.BinOp a .Add b pos) (dAdd wa wb) := ed_op op_add (sr_I0 fun _ _ _ _ => .int _) ha hb
theorem ed_sub (ha : ED X a wa) (hb : ED X b wb) : ED X (.BinOp a .Sub b pos) (dSub wa wb) := ed_op op_sub (sr_I0 fun _ _ _ _ => .int _) ha hb
theorem ed_mul (ha : ED X a wa) (hb : ED X b wb) : ED X (.BinOp a .Mult b pos) (dMul wa wb) := ed_op op_mulB (sr_I fun _ _ _ _ => .int _) ha hb
theorem ed_div (ha : ED X a wa) (hb : ED X b wb) : ED X (.BinOp a .FloorDiv b pos) (dDiv wa wb) := ed_op op_fdivW (sr_I fun _ _ _ _ => .int _) ha hb
theorem ed_mod (ha : ED X a wa) (hb : ED X b wb) : ED X (.BinOp a .Mod b pos) (dMod wa wb) := ed_op op_mod (sr_I fun _ _ _ _ => .int _) ha hb
theorem ed_pow (ha : ED X a wa) (hb : ED X b wb) : ED X (.BinOp a .Pow b pos) (dPow wa wb) := ed_op op_pow (sr_I fun _ _ _ _ => .int _) ha hb
abbrev dLt := dOp (rdI0 fun i j => .bl (decide (i < j)))
abbrev dLe := dOp (rdI0 fun i j => .bl (decide (i ≤ j)))
abbrev dGt := dOp (rdI0 fun i j => .bl (decide (j < i)))
abbrev dGe := dOp (rdI0 fun i j => .bl (decide (j ≤ i)))
theorem et_lt (ha : ED X a wa) (hb : ED X b wb) : EDT X (.Compare a [.Lt] [b] pos) (dTest (dLt wa wb)) := et_cmp op_lt (sr_I0 fun _ _ _ _ => .bl _) ha hb (nomark _)
theorem et_le (ha : ED X a wa) (hb : ED X b wb) : EDT X (.Compare a [.LtE] [b] pos) (dTest (dLe wa wb)) := et_cmp op_le (sr_I0 fun _ _ _ _ => .bl _) ha hb (nomark _)
theorem et_gt (ha : ED X a wa) (hb : ED X b wb) : EDT X (.Compare a [.Gt] [b] pos) (dTest (dGt wa wb)) := et_cmp op_gt (sr_I0 fun _ _ _ _ => .bl _) ha hb (nomark _)
theorem et_ge (ha : ED X a wa) (hb : ED X b wb) : EDT X (.Compare a [.GtE] [b] pos) (dTest (dGe wa wb)) := et_cmp op_ge (sr_I0 fun _ _ _ _ => .bl _) ha hb (nomark _)
theorem ed_lt (ha : ED X a wa) (hb : ED X b wb) : ED X (.Compare a [.Lt] [b] pos) (dLt wa wb) := ed_cmp op_lt (sr_I0 fun _ _ _ _ => .bl _) ha hb (nomark _)
theorem ed_gt (ha : ED X a wa) (hb : ED X b wb) : ED X (.Compare a [.Gt] [b] pos) (dGt wa wb) := ed_cmp op_gt (sr_I0 fun _ _ _ _ => .bl _) ha hb (nomark _)
theorem ed_le (ha : ED X a wa) (hb : ED X b wb) : ED X (.Compare a [.LtE] [b] pos) (dLe wa wb) := ed_cmp op_le (sr_I0 fun _ _ _ _ => .bl _) ha hb (nomark _)
theorem ed_ge (ha : ED X a wa) (hb : ED X b wb) : ED X (.Compare a [.GtE] [b] pos) (dGe wa wb) := ed_cmp op_ge (sr_I0 fun _ _ _ _ => .bl _) ha hb (nomark _)

/-! ### == of scalars -/
def eqS : W → W → Option Bool
  | .int i, .int j => some (decide (i = j))
  | .str x, .str y => some (decide (x = y))
  | .bl x, .bl y => some (decide (x = y))
  | .non, .non => some true
  | .non, .int _ => some false | .int _, .non => some false | .non, .str _ => some false | .str _, .non => some false | .non, .bl _ => some false | .bl _, .non => some false
  | .int _, .str _ => some false | .str _, .int _ => some false | .bl _, .str _ => some false | .str _, .bl _ => some false
  | _, _ => none
def rdEq : R2D := fun x y O S => ∃ b, eqS x y = some b ∧ S (.bl b) O
def rdNe : R2D := fun x y O S => ∃ b, eqS x y = some b ∧ S (.bl (!b)) O
theorem eqS_ok {K : PySem.W.Frag} {F : Hp} {θ : List Addr} {x y : W} {v u : V} {b : Bool} (rx : RW K F θ v x) (ry : RW K F θ u y) (h : eqS x y = some b) : scal v u = true ∧ decide (v = u) = b := by
  cases x <;> cases y <;> (try (exfalso; revert h; simp only [eqS]; intro h; cases h; done)) <;> (cases rx; cases ry; have h2 := Option.some.inj h; subst h2; refine ⟨rfl, ?_⟩; simp)
theorem sr_eq {K : PySem.W.Frag} : SR2 K rEq rdEq := by
  intro F H θ O x y v u S j rx ry q Q k
  obtain ⟨b, e, q⟩ := q
  obtain ⟨h1, h2⟩ := eqS_ok rx ry e
  exact ⟨h1, by rw [h2]; exact k _ _ F H θ O Gr.refl j (.bl b) q⟩
theorem sr_ne {K : PySem.W.Frag} : SR2 K rNe rdNe := by
  intro F H θ O x y v u S j rx ry q Q k
  obtain ⟨b, e, q⟩ := q
  obtain ⟨h1, h2⟩ := eqS_ok rx ry e
  exact ⟨h1, by rw [h2]; exact k _ _ F H θ O Gr.refl j (.bl (!b)) q⟩
theorem et_eq (ha : ED X a wa) (hb : ED X b wb) : EDT X (.Compare a [.Eq] [b] pos) (dTest (dOp rdEq wa wb)) := et_cmp op_eq sr_eq ha hb (nomark _)
theorem et_ne (ha : ED X a wa) (hb : ED X b wb) : EDT X (.Compare a [.NotEq] [b] pos) (dTest (dOp rdNe wa wb)) := et_cmp op_ne sr_ne ha hb (nomark _)
theorem ed_eq (ha : ED X a wa) (hb : ED X b wb) : ED X (.Compare a [.Eq] [b] pos) (dOp rdEq wa wb) := ed_cmp op_eq sr_eq ha hb (nomark _)
theorem ed_ne (ha : ED X a wa) (hb : ED X b wb) : ED X (.Compare a [.NotEq] [b] pos) (dOp rdNe wa wb) := ed_cmp op_ne sr_ne ha hb (nomark _)

/-! ### subscripts -/
def rdIxT : R2D := fun x y O S => ∃ ws i w, x = .tup ws ∧ y = .int i ∧ atI ws i = some w ∧ S w O
def rdIxL : R2D := fun x y O S => ∃ k ws i w, x = .cell k ∧ y = .int i ∧ LstC O k ws ∧ atI ws i = some w ∧ S w O
def rdIxS : R2D := fun x y O S => ∃ z i c, x = .str z ∧ y = .int i ∧ z.length ≤ sizeLine ∧ atI z.cps.toList i = some c ∧ S (.str ⟨#[c]⟩) O
theorem atI_rel {K : PySem.W.Frag} {F : Hp} {θ : List Addr} {vs : List V} {ws : List W} {i : Int} {w : W} (r : RWs K F θ vs ws) (h : atI ws i = some w) : ∃ v, atI vs i = some v ∧ RW K F θ v w := by
  unfold atI at h ⊢
  rw [r.length]
  cases q : ixN ws.length i with
  | none => rw [q] at h; cases h
  | some j =>
    rw [q] at h
    exact r.get (show ws[j]? = some w from h)
theorem sr_ixT {K : PySem.W.Frag} : SR2 K (rIxT K) rdIxT := by
  intro F H θ O x y v u S j rx ry q Q k
  obtain ⟨ws, i, w, rfl, rfl, h, q⟩ := q
  obtain ⟨a, vs, rfl, hq, rr⟩ := rx.tup_inv
  obtain ⟨z, hz, rz⟩ := atI_rel rr h
  exact ⟨a, vs, i, z, rfl, ry.int_inv, sqT_sub j hq, hz, k _ _ F H θ O Gr.refl j rz q⟩
theorem sr_ixL {K : PySem.W.Frag} : SR2 K (rIxL K) rdIxL := by
  intro F H θ O x y v u S j rx ry q Q k
  obtain ⟨c, ws, i, w, rfl, rfl, hc, h, q⟩ := q
  obtain ⟨a, rfl, ha⟩ := rx.cell_inv
  obtain ⟨vs, hl, rr⟩ := j.lstC ha hc
  obtain ⟨z, hz, rz⟩ := atI_rel rr h
  exact ⟨a, vs, i, z, rfl, ry.int_inv, hl, hz, k _ _ F H θ O Gr.refl j rz q⟩
theorem sr_ixS {K : PySem.W.Frag} : SR2 K rIxS rdIxS := by
  intro F H θ O x y v u S j rx ry q Q k
  obtain ⟨z, i, c, rfl, rfl, hz, h, q⟩ := q
  exact ⟨z, i, c, rx.str_inv, ry.int_inv, hz, h, k _ _ F H θ O Gr.refl j (.str _) q⟩
theorem ed_ix {r : R2} {rd : R2D} (hr : IxR X r) (h : SR2 X.K r rd) (ha : ED X a wa) (hb : ED X b wb) (hs : PlainIx b := by exact fun _ _ => rfl) : ED X (.Subscript a b pos) (dOp rd wa wb) := by
  obtain ⟨ta, pa, sa⟩ := ha.ex
  obtain ⟨tb, pb, sb⟩ := hb.ex
  exact ⟨_, pe_ix hr pa pb hs, .op h sa sb⟩
theorem ed_ixT (ha : ED X a wa) (hb : ED X b wb) (hs : PlainIx b := by exact fun _ _ => rfl) : ED X (.Subscript a b pos) (dOp rdIxT wa wb) := ed_ix ix_tup sr_ixT ha hb hs
theorem ed_ixL (ha : ED X a wa) (hb : ED X b wb) (hs : PlainIx b := by exact fun _ _ => rfl) : ED X (.Subscript a b pos) (dOp rdIxL wa wb) := ed_ix ix_list sr_ixL ha hb hs
theorem ed_ixS (ha : ED X a wa) (hb : ED X b wb) (hs : PlainIx b := by exact fun _ _ => rfl) : ED X (.Subscript a b pos) (dOp rdIxS wa wb) := ed_ix ix_str sr_ixS ha hb hs
theorem SR2.or {K : PySem.W.Frag} {r r' : R2} {rd rd' : R2D} (h : SR2 K r rd) (h' : SR2 K r' rd') : SR2 K (fun x y H Q => r x y H Q ∨ r' x y H Q) (fun x y O S => rd x y O S ∨ rd' x y O S) := by
  intro F H θ O x y v u S j rx ry q Q k
  rcases q with q | q
  · exact .inl (h F H θ O x y v u S j rx ry q Q k)
  · exact .inr (h' F H θ O x y v u S j rx ry q Q k)
/-- xs[i] = e -/
def dgSubL (wo wi : DE) : DG := fun w δ O S => wo δ O fun o O1 => wi δ O1 fun i O2 => ∃ k ws n j, o = .cell k ∧ i = .int n ∧ O2[k]? = some (.lst ws) ∧ ixN ws.length n = some j ∧ S δ (O2.set k (.lst (ws.set j w)))
theorem eg_subL (ho : ED X a wa) (hi : ED X b wb) (ha : ∀ v, assign (.Subscript a b pos) X.env v = (do
      let ov ← holding [v] (eval a X.env)
      let iv ← holding [v, ov] (eval b X.env)
      standAt pos
      holding [v, ov, iv] (setItem ov iv v)
      release [v, ov, iv] []) := by intro _; rfl) : EDG X (.Subscript a b pos) (dgSubL wa wb) := by
  obtain ⟨t0, p0, s0⟩ := ho.ex
  obtain ⟨t1, p1, s1⟩ := hi.ex
  refine ⟨_, pg_sub p0 p1 set_list ha, fun F H θ O σ δ v w S j s r q Q k => ?_⟩
  refine s0 F H θ O σ δ _ j s q _ fun vo wo F1 H1 θ1 O1 g1 j1 r1 q1 => ?_
  refine s1 F1 H1 θ1 O1 σ δ _ j1 (s.mono g1) q1 _ fun vi wi F2 H2 θ2 O2 g2 j2 r2 q2 => ?_
  obtain ⟨c, ws, n, m, rfl, rfl, hc, hm, q2⟩ := q2
  obtain ⟨p, rfl, hp⟩ := r1.cell_inv
  obtain ⟨f, vs, hv, rr⟩ := j2.lst (g2.at hp) hc
  refine ⟨p, vs, n, m, rfl, r2.int_inv, hv, by rw [rr.length]; exact hm, ?_⟩
  have g := g1.trans g2
  exact k F2 _ θ2 _ σ δ g (j2.putL (g2.at hp) f (rr.set (r.mono g) m)) (s.mono g) q2

/-! ### slices -/
structure EDO (X : Cx) (e : Option Expr) (wo : DS → Sto → (Option Int → Sto → Prop) → Prop) : Prop where
  ex : ∃ to, PO X e to ∧ ∀ F H θ O σ δ S, Jn X.K F H θ O → RS X.K F θ σ δ → wo δ O S → ∀ Q : Option Int → Hp → Prop, (∀ o F' H' θ' O', Gr F θ F' θ' → Jn X.K F' H' θ' O' → S o O' → Q o H') → to σ H Q
def dNoPart : DS → Sto → (Option Int → Sto → Prop) → Prop := fun _ O S => S none O
def dPart (we : DE) : DS → Sto → (Option Int → Sto → Prop) → Prop := fun δ O S => we δ O fun w O1 => ∃ i, w = .int i ∧ S (some i) O1
theorem eo_none : EDO X none dNoPart := ⟨_, po_none, fun F H θ O σ δ S j s q Q k => k none F H θ O Gr.refl j q⟩
theorem eo_some (h : ED X e we) : EDO X (some e) (dPart we) := by
  obtain ⟨t0, p0, s0⟩ := h.ex
  refine ⟨_, po_some p0, fun F H θ O σ δ S j s q Q k => ?_⟩
  refine s0 F H θ O σ δ _ j s q _ fun v w F1 H1 θ1 O1 g1 j1 r1 q1 => ?_
  obtain ⟨i, rfl, q1⟩ := q1
  exact ⟨i, r1.int_inv, k _ F1 H1 θ1 O1 g1 j1 q1⟩
def cutW (xs : List W) (lo hi : Option Int) : List W := (xs.drop (HT.sIx xs.length 0 lo)).take (HT.sIx xs.length xs.length hi - HT.sIx xs.length 0 lo)
theorem cut_rel {K : PySem.W.Frag} {F : Hp} {θ : List Addr} {vs : List V} {ws : List W} (r : RWs K F θ vs ws) (lo hi : Option Int) : RWs K F θ (cutV vs lo hi) (cutW ws lo hi) := by
  unfold cutV cutW
  rw [r.length]
  exact (r.drop _).take _
def dSlL (we : DE) (wl wh : DS → Sto → (Option Int → Sto → Prop) → Prop) : DE := fun δ O S => we δ O fun w O1 => wl δ O1 fun lo O2 => wh δ O2 fun hi O3 => ∃ k ws, w = .cell k ∧ LstC O3 k ws ∧ S (.cell O3.length) (O3 ++ [.lst (cutW ws lo hi)])
theorem ed_slL {lo hi : Option Expr} {wl wh : DS → Sto → (Option Int → Sto → Prop) → Prop} {p2 : Pos} (he : ED X e we) (hl : EDO X lo wl) (hh : EDO X hi wh) : ED X (.Subscript e (.Slice lo hi none p2) pos) (dSlL we wl wh) := by
  obtain ⟨t0, p0, s0⟩ := he.ex
  obtain ⟨t1, p1, s1⟩ := hl.ex
  obtain ⟨t2, p2, s2⟩ := hh.ex
  refine ⟨_, pe_slice sl_list p0 p1 p2, fun F H θ O σ δ S j s q Q k => ?_⟩
  refine s0 F H θ O σ δ _ j s q _ fun v w F1 H1 θ1 O1 g1 j1 r1 q1 => ?_
  refine s1 F1 H1 θ1 O1 σ δ _ j1 (s.mono g1) q1 _ fun lo F2 H2 θ2 O2 g2 j2 q2 => ?_
  refine s2 F2 H2 θ2 O2 σ δ _ j2 (s.mono (g1.trans g2)) q2 _ fun hi F3 H3 θ3 O3 g3 j3 q3 => ?_
  obtain ⟨c, ws, rfl, hc, q3⟩ := q3
  obtain ⟨a, rfl, ha⟩ := r1.cell_inv
  obtain ⟨vs, hl, rr⟩ := j3.lstC ((g2.trans g3).at ha) hc
  refine ⟨a, vs, rfl, hl, fun p hp => ?_⟩
  exact k _ _ _ _ _ _ (((g1.trans g2).trans g3).trans Gr.push) (j3.newL hp (cut_rel rr lo hi)) (.cell (by rw [← j3.len]; simp)) q3

/-! ### calls of built-ins -/
abbrev RCD := List W → Sto → WK → Prop
def SRC (K : PySem.W.Frag) (r : List V → Hp → VK → Prop) (rd : RCD) : Prop := ∀ F H θ O vs ws S, Jn K F H θ O → RWs K F θ vs ws → rd ws O S → ∀ Q : VK, (∀ z w F' H' θ' O', Gr F θ F' θ' → Jn K F' H' θ' O' → RW K F' θ' z w → S w O' → Q z H') → r vs H Q
def dCB (rd : RCD) (wa : DA) : DE := fun δ O S => wa δ O fun ws O1 => rd ws O1 S
theorem ed_callB {x : Str} {id : String} {p : Pos} {r : List V → Hp → VK → Prop} {rd : RCD} (hc : CallR X (.builtin id) r) (hr : SRC X.K r rd) (hg : Gl X x) (hm : X.mg x = none) (hv : bootBuiltins x = some (.builtin id)) (ha : EDA X (e :: es) wr) (hn : x ≠ "__name__" := by decide) (hdb : (x == ("__debug__" : Str)) = false := by decide)
    (he : starEach (e :: es) X.env = (false, eval e X.env) :: starEach es X.env := by rfl) (hpl : (backTo pos (starEach es X.env)).any (·.1) = false := by rfl) : ED X (.Call (.Name x p) (e :: es) [] pos) (dCB rd wr) := by
  obtain ⟨t0, p0, s0⟩ := ha.ex
  refine ⟨_, pe_callB hc hg hm hv p0 hn hdb he hpl, fun F H θ O σ δ S j s q Q k => ?_⟩
  exact s0 F H θ O σ δ _ j s q _ fun vs ws F1 H1 θ1 O1 g1 j1 r1 q1 => hr F1 H1 θ1 O1 vs ws S j1 r1 q1 Q fun z w F2 H2 θ2 O2 g2 => k z w F2 H2 θ2 O2 (g1.trans g2)
theorem ed_callTy {x : Str} {T : String} {p : Pos} {r : List V → Hp → VK → Prop} {rd : RCD} (hc : CallR X (.type T) r) (hr : SRC X.K r rd) (hg : Gl X x) (hm : X.mg x = none) (hv : bootBuiltins x = some (.type T)) (ha : EDA X (e :: es) wr) (hn : x ≠ "__name__" := by decide) (hdb : (x == ("__debug__" : Str)) = false := by decide)
    (he : starEach (e :: es) X.env = (false, eval e X.env) :: starEach es X.env := by rfl) (hpl : (backTo pos (starEach es X.env)).any (·.1) = false := by rfl) : ED X (.Call (.Name x p) (e :: es) [] pos) (dCB rd wr) := by
  obtain ⟨t0, p0, s0⟩ := ha.ex
  refine ⟨_, pe_callTy hc hg hm hv p0 hn hdb he hpl, fun F H θ O σ δ S j s q Q k => ?_⟩
  exact s0 F H θ O σ δ _ j s q _ fun vs ws F1 H1 θ1 O1 g1 j1 r1 q1 => hr F1 H1 θ1 O1 vs ws S j1 r1 q1 Q fun z w F2 H2 θ2 O2 g2 => k z w F2 H2 θ2 O2 (g1.trans g2)
def rdLen : RCD := fun ws O S => (∃ us, ws = [.tup us] ∧ S (.int us.length) O) ∨ (∃ k us, ws = [.cell k] ∧ LstC O k us ∧ S (.int us.length) O)
theorem src_len {K : PySem.W.Frag} : SRC K (fun xs H Q => ∃ p ys, xs = [.ref p] ∧ (SqL K H p ys ∨ SqT K H p ys) ∧ Q (.int ys.length) H) rdLen := by
  intro F H θ O vs ws S j r q Q k
  rcases q with ⟨us, rfl, q⟩ | ⟨c, us, rfl, hc, q⟩
  · obtain ⟨v, rfl, rv⟩ := r.one_inv
    obtain ⟨a, xs, rfl, hq, rr⟩ := rv.tup_inv
    refine ⟨a, xs, rfl, .inr (sqT_sub j hq), ?_⟩
    rw [rr.length]
    exact k _ _ F H θ O Gr.refl j (.int _) q
  · obtain ⟨v, rfl, rv⟩ := r.one_inv
    obtain ⟨a, rfl, ha⟩ := rv.cell_inv
    obtain ⟨xs, hl, rr⟩ := j.lstC ha hc
    refine ⟨a, xs, rfl, .inl hl, ?_⟩
    rw [rr.length]
    exact k _ _ F H θ O Gr.refl j (.int _) q
def rdLenS : RCD := fun ws O S => ∃ z, ws = [.str z] ∧ z.length ≤ sizeLine ∧ S (.int z.length) O
theorem src_lenS {K : PySem.W.Frag} : SRC K (fun xs H Q => ∃ z, xs = [.str z] ∧ z.length ≤ sizeLine ∧ Q (.int z.length) H) rdLenS := by
  intro F H θ O vs ws S j r q Q k
  obtain ⟨z, rfl, hz, q⟩ := q
  obtain ⟨v, rfl, rv⟩ := r.one_inv
  exact ⟨z, by rw [rv.str_inv], hz, k _ _ F H θ O Gr.refl j (.int _) q⟩
def rdMax2 : RCD := fun ws O S => ∃ i j, ws = [.int i, .int j] ∧ S (.int (if j > i then j else i)) O
def rdMin2 : RCD := fun ws O S => ∃ i j, ws = [.int i, .int j] ∧ S (.int (if j < i then j else i)) O
theorem src_max2 {K : PySem.W.Frag} : SRC K (fun xs H Q => ∃ i j, xs = [.int i, .int j] ∧ Q (.int (if j > i then j else i)) H) rdMax2 := by
  intro F H θ O vs ws S j r q Q k
  obtain ⟨i, l, rfl, q⟩ := q
  obtain ⟨v, u, rfl, rv, ru⟩ := r.two_inv
  exact ⟨i, l, by rw [rv.int_inv, ru.int_inv], k _ _ F H θ O Gr.refl j (.int _) q⟩
theorem src_min2 {K : PySem.W.Frag} : SRC K (fun xs H Q => ∃ i j, xs = [.int i, .int j] ∧ Q (.int (if j < i then j else i)) H) rdMin2 := by
  intro F H θ O vs ws S j r q Q k
  obtain ⟨i, l, rfl, q⟩ := q
  obtain ⟨v, u, rfl, rv, ru⟩ := r.two_inv
  exact ⟨i, l, by rw [rv.int_inv, ru.int_inv], k _ _ F H θ O Gr.refl j (.int _) q⟩
def rdInt1 : RCD := fun ws O S => (∃ i, ws = [.int i] ∧ S (.int i) O) ∨ ∃ b, ws = [.bl b] ∧ S (.int (if b then 1 else 0)) O
theorem src_int1 {K : PySem.W.Frag} : SRC K (fun xs H Q => (∃ i, xs = [.int i] ∧ Q (.int i) H) ∨ ∃ k, xs = [.bl k] ∧ Q (.int (if k then 1 else 0)) H) rdInt1 := by
  intro F H θ O vs ws S j r q Q k
  rcases q with ⟨i, rfl, q⟩ | ⟨b, rfl, q⟩
  · obtain ⟨v, rfl, rv⟩ := r.one_inv
    exact .inl ⟨i, by rw [rv.int_inv], k _ _ F H θ O Gr.refl j (.int _) q⟩
  · obtain ⟨v, rfl, rv⟩ := r.one_inv
    exact .inr ⟨b, by rw [rv.bl_inv], k _ _ F H θ O Gr.refl j (.int _) q⟩
def rdSum : RCD := fun ws O S => ∃ (k : Nat) (ns : List Int), ws = [.cell k] ∧ LstC O k (ns.map W.int) ∧ S (.int ns.sum) O
theorem ints_rel {K : PySem.W.Frag} {F : Hp} {θ : List Addr} : ∀ {vs : List V} {ns : List Int}, RWs K F θ vs (ns.map W.int) → vs = ns.map V.int
  | _, [], r => by cases r; rfl
  | _, n :: ns, r => by
    cases r with
    | cons a b => rw [a.int_inv, ints_rel b]; rfl
theorem strs_rel {K : PySem.W.Frag} {F : Hp} {θ : List Addr} : ∀ {vs : List V} {ns : List Str}, RWs K F θ vs (ns.map W.str) → vs = ns.map V.str
  | _, [], r => by cases r; rfl
  | _, n :: ns, r => by
    cases r with
    | cons a b => rw [a.str_inv, strs_rel b]; rfl
theorem src_sum {K : PySem.W.Frag} : SRC K (rSum K) rdSum := by
  intro F H θ O vs ws S j r q Q k
  obtain ⟨c, ns, rfl, hc, q⟩ := q
  obtain ⟨v, rfl, rv⟩ := r.one_inv
  obtain ⟨a, rfl, ha⟩ := rv.cell_inv
  obtain ⟨xs, hl, rr⟩ := j.lstC ha hc
  exact ⟨a, ns, rfl, by rw [← ints_rel rr]; exact hl, k _ _ F H θ O Gr.refl j (.int _) q⟩
def rdStrI : RCD := fun ws O S => ∃ i, ws = [.int i] ∧ i.natAbs.log2 < 1920 ∧ S (.str (toString i)) O
theorem src_strI {K : PySem.W.Frag} : SRC K (fun xs H Q => ∃ i, xs = [.int i] ∧ i.natAbs.log2 < 1920 ∧ Q (.str (toString i)) H) rdStrI := by
  intro F H θ O vs ws S j r q Q k
  obtain ⟨i, rfl, hi, q⟩ := q
  obtain ⟨v, rfl, rv⟩ := r.one_inv
  exact ⟨i, by rw [rv.int_inv], hi, k _ _ F H θ O Gr.refl j (.str _) q⟩
/-- list(..), tuple(..) of a list, a tuple -/
def rdListOf : RCD := fun ws O S => (∃ us, ws = [.tup us] ∧ S (.cell O.length) (O ++ [.lst us])) ∨ ∃ k us, ws = [.cell k] ∧ LstC O k us ∧ S (.cell O.length) (O ++ [.lst us])
theorem src_listOf {K : PySem.W.Frag} : SRC K (fun xs H Q => ∃ p ys, xs = [.ref p] ∧ (SqL K H p ys ∨ SqT K H p ys) ∧ ∀ l, H l = none → Q (.ref l) (L2.upd H l (.lst ys))) rdListOf := by
  intro F H θ O vs ws S j r q Q k
  rcases q with ⟨us, rfl, q⟩ | ⟨c, us, rfl, hc, q⟩
  · obtain ⟨v, rfl, rv⟩ := r.one_inv
    obtain ⟨a, xs, rfl, hq, rr⟩ := rv.tup_inv
    exact ⟨a, xs, rfl, .inr (sqT_sub j hq), fun p hp => k _ _ _ _ _ _ Gr.push (j.newL hp rr) (.cell (by rw [← j.len]; simp)) q⟩
  · obtain ⟨v, rfl, rv⟩ := r.one_inv
    obtain ⟨a, rfl, ha⟩ := rv.cell_inv
    obtain ⟨xs, hl, rr⟩ := j.lstC ha hc
    exact ⟨a, xs, rfl, .inl hl, fun p hp => k _ _ _ _ _ _ Gr.push (j.newL hp rr) (.cell (by rw [← j.len]; simp)) q⟩
def rdTupOf : RCD := fun ws O S => (∃ us, ws = [.tup us] ∧ S (.tup us) O) ∨ ∃ k us, ws = [.cell k] ∧ LstC O k us ∧ S (.tup us) O
theorem src_tupOf {K : PySem.W.Frag} : SRC K (fun xs H Q => ∃ p ys, xs = [.ref p] ∧ ((SqL K H p ys ∧ ∀ l, H l = none → Q (.ref l) (L2.upd H l (.tup ys))) ∨ (SqT K H p ys ∧ Q (.ref p) H))) rdTupOf := by
  intro F H θ O vs ws S j r q Q k
  rcases q with ⟨us, rfl, q⟩ | ⟨c, us, rfl, hc, q⟩
  · obtain ⟨v, rfl, rv⟩ := r.one_inv
    obtain ⟨a, xs, rfl, hq, rr⟩ := rv.tup_inv
    exact ⟨a, xs, rfl, .inr ⟨sqT_sub j hq, k _ _ F H θ O Gr.refl j rv q⟩⟩
  · obtain ⟨v, rfl, rv⟩ := r.one_inv
    obtain ⟨a, rfl, ha⟩ := rv.cell_inv
    obtain ⟨xs, hl, rr⟩ := j.lstC ha hc
    refine ⟨a, xs, rfl, .inl ⟨hl, fun p hp => ?_⟩⟩
    have g2 : Gr F θ (L2.upd F p (.tup xs)) θ := Gr.upd (j.freeF hp)
    exact k _ _ _ _ _ _ g2 (j.newT hp) (.tup (.inl (.inl upd_same)) (rr.mono g2)) q

/-! ### methods -/
abbrev RMD := W → List W → Sto → WK → Prop
def SRM (K : PySem.W.Frag) (T : String) (r : V → List V → Hp → VK → Prop) (rd : RMD) : Prop := ∀ F H θ O v x vs ws S, Jn K F H θ O → RW K F θ v x → RWs K F θ vs ws → rd x ws O S → ∀ Q : VK, (∀ z w F' H' θ' O', Gr F θ F' θ' → Jn K F' H' θ' O' → RW K F' θ' z w → S w O' → Q z H') → r v vs H Q
/-- what a method's receiver is, ahead of the arguments -/
def STy (K : PySem.W.Frag) (T : String) (ok : W → Sto → Prop) : Prop := ∀ F H θ O v x, Jn K F H θ O → RW K F θ v x → ok x O → tyV K T v H
def okL (x : W) (O : Sto) : Prop := ∃ k ws, x = .cell k ∧ LstC O k ws
def okS (x : W) (_ : Sto) : Prop := ∃ z, x = .str z
theorem sty_L {K : PySem.W.Frag} : STy K "list" okL := by
  intro F H θ O v x j r h
  obtain ⟨c, ws, rfl, hc⟩ := h
  obtain ⟨a, rfl, ha⟩ := r.cell_inv
  obtain ⟨vs, hl, _⟩ := j.lstC ha hc
  exact .inl ⟨rfl, vs, hl⟩
theorem sty_S {K : PySem.W.Frag} : STy K "str" okS := by
  intro F H θ O v x j r h
  obtain ⟨z, rfl⟩ := h
  rw [r.str_inv]
  rfl
def dBM (ok : W → Sto → Prop) (rd : RMD) (wo : DE) (wa : DA) : DE := fun δ O S => wo δ O fun x O1 => ok x O1 ∧ wa δ O1 fun ws O2 => rd x ws O2 S
theorem ed_bm {name : Str} {apos cpos : Pos} {T id : String} {r : V → List V → Hp → VK → Prop} {rd : RMD} {ok : W → Sto → Prop} (pa : PlainAttrs T) (slot : Slot T name id) (hty : typeOf (.builtin id) = pure (.type "method_descriptor")) (hm : MtR X id r) (hs : STy X.K T ok) (hr : SRM X.K T r rd) (ho : ED X a wa) (ha : EDA X (e :: es) wr)
    (hbase : attributeBase a name X.env (eval a X.env) = eval a X.env := by rfl) (hline : (apos.endLine == cpos.line) = true := by rfl)
    (hplain : (((backTo cpos (starEach (e :: es) X.env)).all (!·.1)) && (backToKw cpos (keywordEach [] X.env)).all (·.1.isSome) && decide ((e :: es).length + ([] : List Keyword).length + (if ([] : List Keyword).isEmpty then 0 else 1) < 30)) = true := by rfl)
    (hst : starEach (e :: es) X.env = (false, eval e X.env) :: starEach es X.env := by rfl) (hpl : (backTo cpos (starEach es X.env)).any (·.1) = false := by rfl) : ED X (.Call (.Attribute a name apos) (e :: es) [] cpos) (dBM ok rd wa wr) := by
  obtain ⟨t0, p0, s0⟩ := ho.ex
  obtain ⟨t1, p1, s1⟩ := ha.ex
  refine ⟨_, pe_bm pa slot hty hm p0 p1 hbase hplain hline hst hpl, fun F H θ O σ δ S j s q Q k => ?_⟩
  refine s0 F H θ O σ δ _ j s q _ fun v x F1 H1 θ1 O1 g1 j1 r1 q1 => ⟨hs F1 H1 θ1 O1 v x j1 r1 q1.1, ?_⟩
  refine s1 F1 H1 θ1 O1 σ δ _ j1 (s.mono g1) q1.2 _ fun vs ws F2 H2 θ2 O2 g2 j2 r2 q2 => ?_
  exact hr F2 H2 θ2 O2 v x vs ws S j2 (r1.mono g2) r2 q2 Q fun z w F3 H3 θ3 O3 g3 => k z w F3 H3 θ3 O3 ((g1.trans g2).trans g3)
def rdAppend : RMD := fun x ws O S => ∃ k us w, x = .cell k ∧ ws = [w] ∧ O[k]? = some (.lst us) ∧ us.length < sizeLine ∧ S .non (O.set k (.lst (us ++ [w])))
theorem srm_append {K : PySem.W.Frag} : SRM K "list" rAppend rdAppend := by
  intro F H θ O v x vs ws S j r rs q Q k
  obtain ⟨c, us, w, rfl, rfl, hc, hz, q⟩ := q
  obtain ⟨a, rfl, ha⟩ := r.cell_inv
  obtain ⟨y, rfl, ry⟩ := rs.one_inv
  obtain ⟨f, xs, hx, rr⟩ := j.lst ha hc
  exact ⟨a, xs, y, rfl, rfl, hx, by rw [rr.length]; exact hz, k _ _ F _ θ _ Gr.refl (j.putL ha f (rr.append (.cons ry .nil))) .non q⟩
def rdPopAt : RMD := fun x ws O S => ∃ k us i n w, x = .cell k ∧ ws = [.int i] ∧ O[k]? = some (.lst us) ∧ -(2 ^ 63) ≤ i ∧ i < 2 ^ 63 ∧ seqIndex? i us.length = some n ∧ us[n]? = some w ∧ S w (O.set k (.lst (us.eraseIdx n)))
theorem srm_popAt {K : PySem.W.Frag} : SRM K "list" rPopAt rdPopAt := by
  intro F H θ O v x vs ws S j r rs q Q k
  obtain ⟨c, us, i, n, w, rfl, rfl, hc, h1, h2, hn, hw, q⟩ := q
  obtain ⟨a, rfl, ha⟩ := r.cell_inv
  obtain ⟨y, rfl, ry⟩ := rs.one_inv
  obtain ⟨f, xs, hx, rr⟩ := j.lst ha hc
  obtain ⟨z, hz, rz⟩ := rr.get hw
  exact ⟨a, xs, i, n, z, rfl, by rw [ry.int_inv], hx, h1, h2, by rw [rr.length]; exact hn, hz, k _ _ F _ θ _ Gr.refl (j.putL ha f (rr.erase n)) rz q⟩
def rdInsert : RMD := fun x ws O S => ∃ k us i w, x = .cell k ∧ ws = [.int i, w] ∧ O[k]? = some (.lst us) ∧ us.length < sizeLine ∧ 0 ≤ i ∧ i < 2 ^ 63 ∧ S .non (O.set k (.lst (us.take i.toNat ++ [w] ++ us.drop i.toNat)))
theorem srm_insert {K : PySem.W.Frag} : SRM K "list" (fun x vs H Q => ∃ (l : Addr) (xs : List V) (i : Int) (y : V), x = .ref l ∧ vs = [.int i, y] ∧ H l = some (.lst xs) ∧ xs.length < sizeLine ∧ 0 ≤ i ∧ i < 2 ^ 63 ∧ Q .non (L2.upd H l (.lst (xs.take i.toNat ++ [y] ++ xs.drop i.toNat)))) rdInsert := by
  intro F H θ O v x vs ws S j r rs q Q k
  obtain ⟨c, us, i, w, rfl, rfl, hc, hz, h0, h1, q⟩ := q
  obtain ⟨a, rfl, ha⟩ := r.cell_inv
  obtain ⟨y, z, rfl, ry, rz⟩ := rs.two_inv
  obtain ⟨f, xs, hx, rr⟩ := j.lst ha hc
  exact ⟨a, xs, i, z, rfl, by rw [ry.int_inv], hx, by rw [rr.length]; exact hz, h0, h1, k _ _ F _ θ _ Gr.refl (j.putL ha f (((rr.take _).append (.cons rz .nil)).append (rr.drop _))) .non q⟩
def rdJoin : RMD := fun x ws O S => ∃ (a : Str) (ys : List Str), x = .str a ∧ ((∃ k, ws = [.cell k] ∧ LstC O k (ys.map W.str)) ∨ ws = [.tup (ys.map W.str)]) ∧ (ys.map (·.length)).sum + ys.length * a.length ≤ 16777216 ∧ S (.str (Txt.join a ys)) O
theorem srm_join {K : PySem.W.Frag} : SRM K "str" (fun x xs H Q => ∃ a p, ∃ ys : List Str, x = .str a ∧ xs = [.ref p] ∧ (SqL K H p (ys.map V.str) ∨ SqT K H p (ys.map V.str)) ∧ (ys.map (·.length)).sum + ys.length * a.length ≤ 16777216 ∧ Q (.str (Txt.join a ys)) H) rdJoin := by
  intro F H θ O v x vs ws S j r rs q Q k
  obtain ⟨a, ys, rfl, h, hz, q⟩ := q
  rcases h with ⟨c, rfl, hc⟩ | rfl
  · obtain ⟨y, rfl, ry⟩ := rs.one_inv
    obtain ⟨p, rfl, hp⟩ := ry.cell_inv
    obtain ⟨xs, hl, rr⟩ := j.lstC hp hc
    exact ⟨a, p, ys, r.str_inv, rfl, .inl (by rw [← strs_rel rr]; exact hl), hz, k _ _ F H θ O Gr.refl j (.str _) q⟩
  · obtain ⟨y, rfl, ry⟩ := rs.one_inv
    obtain ⟨p, xs, rfl, hq, rr⟩ := ry.tup_inv
    exact ⟨a, p, ys, r.str_inv, rfl, .inr (by rw [← strs_rel rr]; exact sqT_sub j hq), hz, k _ _ F H θ O Gr.refl j (.str _) q⟩
end
end Dm

set_option Elab.async false
set_option linter.all false
set_option maxRecDepth 100000
set_option maxHeartbeats 4000000
/-! len(set(texts)), of any number of texts below 4000: how many unlike ones. -/
namespace Dm
open PySem PySem.Spec PyProof.Rows L2

/-- how many unlike texts are among the first i -/
def nD (xs : List Str) : Nat → Nat
  | 0 => 0
  | i + 1 => if (xs.take i).any (· == xs.getD i Str.empty) = true then nD xs i else nD xs i + 1
theorem nD_le (xs : List Str) : ∀ i, nD xs i ≤ i
  | 0 => Nat.le_refl _
  | i + 1 => by
    have h := nD_le xs i
    unfold nD
    split <;> omega
theorem take_any {xs : List Str} {i : Nat} (h : i < xs.length) (k : Str) : ((xs.take i).any (· == k) || decide (k = xs.getD i Str.empty)) = (xs.take (i + 1)).any (· == k) := by
  have e : xs.getD i Str.empty = xs[i] := by simp [List.getD, h]
  rw [List.take_add_one, List.getElem?_eq_getElem h, List.any_append, e]
  congr 1
  by_cases q : k = xs[i]
  · subst q
    simp
  · have : (xs[i] == k) = false := by simpa using fun z : xs[i] = k => q z.symm
    simp [this, q]
section
variable {prog : Program} {w : World} {A : Around} {R : Result → Shared → Prop} {E : Value → Shared → Prop} {I : Addr} {fp wr : List Addr} {G : Array GenState → Array GenState → Prop} {n : Nat} {P : Nat → Value → Prop} {St : Nat → Shared → Prop}
theorem setOf_get {h h' : Heap} {S : Addr} {f : Str → Bool} {m : Nat} (x : h.SetOf (PySem.strKind prog w) S f m) (k : ∀ o, h.get? S = some o → h'.get? S = some o) : h'.SetOf (PySem.strKind prog w) S f m :=
  let ⟨o, es, ep, t, ho, rest⟩ := x
  ⟨o, es, ep, t, k o ho, rest⟩
/-- the members are laid one behind another -/
theorem setLoop (W : WalksS prog w A.in1 I fp wr G n P St) (S : Addr) (nS : S ∉ fp) (xs : List Str) (en : xs.length = n) (room : n + 1 < scanBound) (val : ∀ i v, P i v → ∃ t, v = .str (xs.getD i Str.empty) t) : ∀ (k i : Nat) (s : Shared), n - i = k → i ≤ n → St i s →
    s.heap.SetOf (PySem.strKind prog w) S (fun z => (xs.take i).any (· == z)) (nD xs i) → (∀ s', Moved (S :: wr) G s s' → s'.heap.SetOf (PySem.strKind prog w) S (fun z => (xs.take n).any (· == z)) (nD xs n) → R (.ok (.ret .none)) s') →
    codeAny (model prog w) A (.builtin "set.update.loop" ⟨[.ref S, .ref I], []⟩) R s := by
  have nW : S ∉ wr := fun z => nS (W.sub _ z)
  have more : ∀ b ∈ wr, b ∈ S :: wr := fun b z => List.mem_cons_of_mem _ z
  intro k
  induction k with
  | zero =>
    intro i s hk hi st hS fin
    obtain rfl : i = n := by omega
    refine codeAny_builtin PyProof.Rows.F.entry_set_update_loop ?_
    rw [Around.under_plainId PyProof.Rows.F.plain_set_update_loop _]
    show wpAny _ A.in1 (pyNext (.ref I) >>= _) _ _ s
    exact wpAny_bind (W.done s _ _ st fun s' mv => (show wpAny _ A.in1 (ret Value.none) _ _ s' from wpAny_pure (fin s' (mv.mono more) (setOf_get hS fun o ho => mv.heap S o nW ho))))
  | succ k ih =>
    intro i s hk hi st hS fin
    have lt : i < n := by omega
    refine codeAny_builtin PyProof.Rows.F.entry_set_update_loop ?_
    rw [Around.under_plainId PyProof.Rows.F.plain_set_update_loop _]
    show wpAny _ A.in1 (pyNext (.ref I) >>= _) _ _ s
    refine wpAny_bind (W.item i s _ _ lt st fun v s' hP st' mv => ?_)
    obtain ⟨t, rfl⟩ := val i v hP
    have hS1 := setOf_get hS fun o ho => mv.heap S o nW ho
    show wpAny _ A.in1 (holding [Value.str (xs.getD i Str.empty) t] (setAdd S (.str (xs.getD i Str.empty) t)) >>= _) _ _ s'
    refine wpAny_bind (wpAny_holding ?_)
    unfold setAdd
    refine wpAny_holding (wpAny_bind ((PySem.strKind prog w).pyHash (k := xs.getD i Str.empty) (strKind_is _ _ _ _) ?_))
    refine wpAny_setAddHashed_of (knd := PySem.strKind prog w) (s := { s' with toks := s'.toks + 1 }) (strKind_is _ _ _ _) rfl hS1 (by have := nD_le xs i; omega) fun h' sb hS2 => ?_
    have hS3 : h'.SetOf (PySem.strKind prog w) S (fun z => (xs.take (i + 1)).any (· == z)) (nD xs (i + 1)) := PyProof.Rows.SetOf_congr hS2 (fun z => take_any (by omega) z) (by rw [show nD xs (i + 1) = if (xs.take i).any (· == xs.getD i Str.empty) = true then nD xs i else nD xs i + 1 from rfl])
    refine wpAny_pure ⟨plainId_quiet PyProof.Rows.F.plain_set_update_loop _, ih (i + 1) _ (by omega) lt (W.frame _ s' _ _ st' (Nat.le_succ _) fun b hb o e => (sb.2 b fun z : b = S => nS (z ▸ hb)).trans e) hS3 fun s2 mv2 hS4 => fin s2 (Moved.trans W.gtrans ((mv.mono more).then_heap (Nat.le_succ _) fun b o hb e => (sb.2 b fun z : b = S => hb (z ▸ List.mem_cons_self)).trans e) mv2) hS4⟩
end
/-- an empty set, new -/
abbrev eSet (led : Bool) : Obj := { cls := .type "set", dict := none, data := .set #[] 0 (.fresh 0 0 led) }
section
variable {prog : Program} {w : World} {A : Around} {E : Value → Shared → Prop} {s : Shared}
theorem strs_nth {us : List Value} {xs : List Str} (h : PyProof.Rows.StrsAre us xs) : ∀ (i : Nat) (v : Value), us[i]? = some v → ∃ t, v = .str (xs.getD i Str.empty) t := by
  induction h with
  | nil =>
    intro i v e
    simp at e
  | cons n t hr ih =>
    intro i v e
    cases i with
    | zero =>
      simp at e
      exact ⟨t, by rw [← e]; rfl⟩
    | succ i =>
      rw [List.getElem?_cons_succ] at e
      obtain ⟨t', q⟩ := ih i v e
      exact ⟨t', by rw [q]; rfl⟩
set_option maxHeartbeats 6400000 in
/-- set(xs) of a list or a tuple of texts -/
theorem callSet {l : Addr} {T IT : String} {items : Array Value} {xs : List Str} {Q : Value → Shared → Prop} (hT : (T = "list" ∧ IT = "list_iterator") ∨ (T = "tuple" ∧ IT = "tuple_iterator")) (hh : A.handled = none) (ho : ∃ o n, s.heap.get? l = some o ∧ o.cls = .type T ∧ o.data = .seq items n) (hi : PyProof.Rows.StrsAre items.toList xs) (room : xs.length + 1 < scanBound)
    (h : ∀ (h' : Heap) (tk : Nat), h'.SetOf (PySem.strKind prog w) s.heap.objs.size (fun z => (xs.take items.size).any (· == z)) (nD xs items.size) → (∀ b o, b < s.heap.objs.size → s.heap.get? b = some o → h'.get? b = some o) → Q (.ref s.heap.objs.size) { s with heap := h', toks := tk }) :
    wpAny (model prog w) A (call (.type "set") [.ref l]) Q E s := by
  obtain ⟨cM, tM, hmro⟩ := PySem.F.called_set.mro
  have q1 := PySem.F.called_set.made
  have q2 := PySem.F.called_set.sub
  refine wpAny_call (codeAny_of_tree (show wpAny _ _ (callAny (.type "set") _) _ _ _ from wpAny_pure ⟨Code.quiet_builtin _ (by decide +kernel), codeAny_builtin PySem.F.entry_type_call ?_⟩))
  rw [Around.under_plain (weight_type_call_type "set" [.ref l] []) rfl]
  have q3 := PySem.F.called_set.notType
  have q4 := PySem.F.called_set.canCreate
  have q5 := PySem.F.typeCall_set_1 (.ref l)
  repeat (any_goals (first | assumption | wp_step))
  refine codeAny_mono (code_set_new_1 (.ref l) (E := E) (Q₁ := fun x s₁ => ∃ led : Bool, x = .ref s.heap.objs.size ∧ s₁ = { s with heap := s.heap.push (eSet led) }) fun led => ⟨led, rfl, rfl⟩) fun r s₁ hr => ?_
  cases r with
  | error e => exact hr
  | ok fl =>
    cases fl with
    | ret x =>
      obtain ⟨led, rfl, rfl⟩ := hr
      have atS : (s.heap.push (eSet led)).get? s.heap.objs.size = some (eSet led) := Heap.get?_push_size _ rfl
      have tyS : Shared.TypeIs { s with heap := s.heap.push (eSet led) } (.ref s.heap.objs.size) "set" := ⟨_, atS, rfl⟩
      have q6 := PySem.F.called_set.init.lookup
      have q7 := PySem.F.called_set.init.bind (.ref s.heap.objs.size)
      repeat (any_goals (first | assumption | wp_step))
      refine codeAny_mono (codeAny_call_builtin (R := wants (fun r s₂ => r = .none ∧ ∃ h' tk, s₂ = { s with heap := h', toks := tk } ∧ h'.SetOf (PySem.strKind prog w) s.heap.objs.size (fun z => (xs.take items.size).any (· == z)) (nD xs items.size) ∧ (∀ b o, b < s.heap.objs.size → s.heap.get? b = some o → h'.get? b = some o)) E) PySem.F.called_set.init.plain PySem.F.entry_set_init (check_set_init_1 tyS ?_)) fun r₂ s₂ hr₂ => ?_
      · obtain ⟨⟨oc, od, oda, osl⟩, nl, hol, hcl, hdl⟩ := ho
        simp only at hcl hdl
        subst hcl
        subst hdl
        have lS : l < s.heap.objs.size := Heap.lt_size hol
        have ol1 : (s.heap.push (eSet led)).get? l = some { cls := .type T, dict := od, data := .seq items nl, slots := osl } := Heap.get?_push_of_some _ hol
        have nI : l ≠ (s.heap.push (eSet led)).objs.size := by
          rw [Heap.size_push]
          exact Nat.ne_of_lt (Nat.lt_succ_of_lt lS)
        have nS : s.heap.objs.size ∉ [(s.heap.push (eSet led)).objs.size, l] := by
          rw [Heap.size_push]
          simp only [List.mem_cons, List.not_mem_nil, or_false, not_or]
          exact ⟨Nat.ne_of_lt (Nat.lt_succ_self _), Nat.ne_of_gt lS⟩
        have en : xs.length = items.size := by rw [← StrsAre.len_eq hi, Array.length_toList]
        have hv : ∀ (i : Nat) (v : Value), items[i]? = some v → ∃ t, v = .str (xs.getD i Str.empty) t := fun i v e => strs_nth hi i v (by rw [Array.getElem?_toList]; exact e)
        have h3 : A.in1.in1.in1.handled = none := by simp [hh]
        have zero : ∀ ob : Obj, ((s.heap.push (eSet led)).push ob).SetOf (PySem.strKind prog w) s.heap.objs.size (fun z => (xs.take 0).any (· == z)) (nD xs 0) := fun ob =>
          PyProof.Rows.SetOf_congr ((PyProof.Rows.setObjOf_fresh (knd := PySem.strKind prog w) led).setOf (Heap.get?_push_of_some ob atS) (by unfold scanBound; omega)) (fun _ => rfl) rfl
        rcases hT with ⟨rfl, rfl⟩ | ⟨rfl, rfl⟩
        · have hl1 : (s.heap.push (eSet led)).IsList l items := ⟨_, ol1, rfl, nl, rfl⟩
          have d1 := PySem.F.sub_list_set
          have d2 := PySem.F.sub_list_frozenset
          have d3 : (Value.type "list" == Value.type "dict") = false := by decide
          unfold Builtin.«set.__init__» noKeywords Builtin.Frozenset.updateFrom
          generalize hPI : pyIter = PI
          wp_walk
          subst hPI
          refine wpAny_pyIter_list hl1 (wpAny_bind (wpAny_runValue ?_))
          refine setLoop ((Walks.list h3 _ l nI items).toS) s.heap.objs.size nS xs en (by omega) hv (items.size - 0) 0 _ (by omega) (Nat.zero_le _) ⟨⟨_, Heap.get?_push_size _ rfl, rfl, rfl⟩, (hl1.push _)⟩ (zero _) ?_
          rintro ⟨h', g', d', tk', os'⟩ mv hS'
          obtain rfl : g' = s.gens := mv.gens
          obtain rfl : d' = s.drawn := mv.drawn
          obtain rfl : os' = s.os := mv.os
          show wpAny _ _ _ _ _ _
          refine wpAny_pure (show wpAny _ _ (ret Value.none) _ _ _ from wpAny_pure ⟨rfl, h', tk', rfl, hS', fun b o hb e => ?_⟩)
          refine mv.heap b o ?_ (Heap.get?_push_of_some _ (Heap.get?_push_of_some _ e))
          rw [Heap.size_push]
          simp only [List.mem_cons, List.not_mem_nil, or_false, not_or]
          exact ⟨Nat.ne_of_lt hb, Nat.ne_of_lt (Nat.lt_succ_of_lt hb)⟩
        · have hl1 : (s.heap.push (eSet led)).IsTuple l items := ⟨_, ol1, rfl, nl, rfl⟩
          have d1 := PySem.F.sub_tuple_set
          have d2 := PySem.F.sub_tuple_frozenset
          have d3 : (Value.type "tuple" == Value.type "dict") = false := by decide
          unfold Builtin.«set.__init__» noKeywords Builtin.Frozenset.updateFrom
          generalize hPI : pyIter = PI
          wp_walk
          subst hPI
          refine wpAny_pyIter_tuple hl1 (wpAny_bind (wpAny_runValue ?_))
          refine setLoop ((Walks.tuple h3 _ l nI items).toS) s.heap.objs.size nS xs en (by omega) hv (items.size - 0) 0 _ (by omega) (Nat.zero_le _) ⟨⟨_, Heap.get?_push_size _ rfl, rfl, rfl⟩, (hl1.push _)⟩ (zero _) ?_
          rintro ⟨h', g', d', tk', os'⟩ mv hS'
          obtain rfl : g' = s.gens := mv.gens
          obtain rfl : d' = s.drawn := mv.drawn
          obtain rfl : os' = s.os := mv.os
          show wpAny _ _ _ _ _ _
          refine wpAny_pure (show wpAny _ _ (ret Value.none) _ _ _ from wpAny_pure ⟨rfl, h', tk', rfl, hS', fun b o hb e => ?_⟩)
          refine mv.heap b o ?_ (Heap.get?_push_of_some _ (Heap.get?_push_of_some _ e))
          rw [Heap.size_push]
          simp only [List.mem_cons, List.not_mem_nil, or_false, not_or]
          exact ⟨Nat.ne_of_lt hb, Nat.ne_of_lt (Nat.lt_succ_of_lt hb)⟩
      · cases r₂ with
        | error e => exact hr₂
        | ok fl₂ =>
          cases fl₂ with
          | ret r =>
            obtain ⟨rfl, h', tk, rfl, hS', hk'⟩ := hr₂
            repeat (any_goals (first | assumption | wp_step))
            exact h _ _ hS' hk'
          | _ => exact hr₂.elim
    | _ => exact hr.elim
end
/-- len(set(xs)) -/
def tLenS (K : PySem.W.Frag) (ta : TE) : TE := fun σ H Q => ta σ H fun x H1 => ∃ l, ∃ xs : List Str, x = .ref l ∧ (SqL K H1 l (xs.map V.str) ∨ SqT K H1 l (xs.map V.str)) ∧ xs.length < 4000 ∧ Q (.int (nD xs xs.length : Nat)) H1
theorem pe_lenS {X : Cx} {a : Expr} {ta : TE} {p p2 q pos : Pos} (hc : X.calm = true) (hg : Gl X "len") (hm : X.mg "len" = none) (hg2 : Gl X "set") (hm2 : X.mg "set" = none) (ha : PE X a ta)
    (na : starEach [a] X.env = (false, eval a X.env) :: starEach [] X.env := by rfl) : PE X (.Call (.Name "len" p) [.Call (.Name "set" p2) [a] [] q] [] pos) (tLenS X.K ta) := by
  refine ⟨fun pins s σ H Q I h => Call_ (ld_blt I hg hm boot_len ?_)⟩
  refine PyProof.Rows.callWith_builtin1 (PyProof.Rows.args_cons (Call_ (ld_blt I hg2 hm2 boot_set ?_)) rfl) rfl rfl
  refine PyProof.Rows.callWith_type1 (PyProof.Rows.args_cons (thn (ha.run pins s σ H _ I h) fun v s1 ⟨x, H1, I1, r1, q1⟩ => PyProof.Rows.args_nil ?_) na) na rfl
  obtain ⟨l, xs, rfl, hq, h1, q1⟩ := q1
  cases r1
  have room : xs.length + 1 < scanBound := by unfold scanBound; omega
  have fin : ∀ (its : List Value), Vals (xs.map V.str) its → ∀ (h' : Heap) (tk : Nat), h'.SetOf (PySem.strKind X.prog X.w) s1.heap.objs.size (fun z => (xs.take its.toArray.size).any (· == z)) (nD xs its.toArray.size) →
      (∀ b o, b < s1.heap.objs.size → s1.heap.get? b = some o → h'.get? b = some o) →
      wpAny (model X.prog X.w) X.A (spliced (backTo pos (starEach [] X.env))) (fun vs s₂ => wpAny (model X.prog X.w) X.A (call (.builtin "len") (Value.ref s1.heap.objs.size :: vs)) (EP X pins σ Q) X.xe s₂) X.xe { s1 with heap := h', toks := tk } := fun its r h' tk hS hk => by
    refine PyProof.Rows.args_nil ?_
    have hl : its.toArray.size = xs.length := by rw [List.size_toArray, ← r.length, List.length_map]
    rw [hl] at hS
    obtain ⟨o, es, ep, t, ho, hex, hd, _, _, _, hf, hn⟩ := hS
    have hb := nD_le xs xs.length
    have I2 : Inv X pins σ H1 { s1 with heap := h', toks := tk } := I1.kept fun b o e => hk b o (Heap.lt_size e) e
    exact call_len_set ho hex hd hf (by rw [hn]; omega) ⟨.int (nD xs xs.length : Nat), H1, I2.tok _, ⟨_, by rw [hn]⟩, q1⟩
  rcases hq with hq | hq
  · obtain ⟨its, r, pl, hz⟩ := I1.list hq
    obtain ⟨o, ho, hcl, n, hd⟩ := pl.isList
    exact callSet (.inl ⟨rfl, rfl⟩) (I1.ok.hd hc) ⟨o, n, ho, hcl, hd⟩ (by simpa using strsAre_of r) room fun h' tk hS hk => fin its r h' tk hS hk
  · obtain ⟨its, r, pl, hz⟩ := I1.tuple hq
    obtain ⟨o, ho, hcl, n, hd⟩ := pl
    exact callSet (.inr ⟨rfl, rfl⟩) (I1.ok.hd hc) ⟨o, n, ho, hcl, hd⟩ (by simpa using strsAre_of r) room fun h' tk hS hk => fin its r h' tk hS hk
def dLenSet (wa : DE) : DE := fun δ O S => wa δ O fun x O1 => ∃ xs : List Str, ((∃ k, x = .cell k ∧ LstC O1 k (xs.map W.str)) ∨ x = .tup (xs.map W.str)) ∧ xs.length < 4000 ∧ S (.int (nD xs xs.length : Nat)) O1
theorem ed_lenSet {X : Cx} {a : Expr} {wa : DE} {p p2 q pos : Pos} (hc : X.calm = true) (hg : Gl X "len") (hm : X.mg "len" = none) (hg2 : Gl X "set") (hm2 : X.mg "set" = none) (ha : ED X a wa)
    (na : starEach [a] X.env = (false, eval a X.env) :: starEach [] X.env := by rfl) : ED X (.Call (.Name "len" p) [.Call (.Name "set" p2) [a] [] q] [] pos) (dLenSet wa) := by
  obtain ⟨t0, p0, s0⟩ := ha.ex
  refine ⟨_, pe_lenS hc hg hm hg2 hm2 p0 na, fun F H θ O σ δ S j s q Q k => ?_⟩
  refine s0 F H θ O σ δ _ j s q _ fun v x F1 H1 θ1 O1 g1 j1 r1 q1 => ?_
  obtain ⟨xs, h, hz, q1⟩ := q1
  rcases h with ⟨c, rfl, hcl⟩ | rfl
  · obtain ⟨l, rfl, hl⟩ := r1.cell_inv
    obtain ⟨vs, hv, rr⟩ := j1.lstC hl hcl
    exact ⟨l, xs, rfl, .inl (by rw [← strs_rel rr]; exact hv), hz, k _ _ F1 H1 θ1 O1 g1 j1 (.int _) q1⟩
  · obtain ⟨l, vs, rfl, hq, rr⟩ := r1.tup_inv
    exact ⟨l, xs, rfl, .inr (by rw [← strs_rel rr]; exact sqT_sub j1 hq), hz, k _ _ F1 H1 θ1 O1 g1 j1 (.int _) q1⟩
/-- all unlike: as many as there are -/
theorem nD_nodup (xs : List Str) : ∀ i, i ≤ xs.length → (nD xs i = i ↔ (xs.take i).Nodup)
  | 0, _ => by simp [nD]
  | i + 1, h => by
    have lt : i < xs.length := by omega
    have ih := nD_nodup xs i (by omega)
    have le := nD_le xs i
    have e : xs.getD i Str.empty = xs[i] := by simp [List.getD, lt]
    have t : xs.take (i + 1) = xs.take i ++ [xs[i]] := by rw [List.take_add_one, List.getElem?_eq_getElem lt]; rfl
    unfold nD
    rw [e, t, List.nodup_append]
    by_cases m : xs[i] ∈ xs.take i
    · have : (xs.take i).any (· == xs[i]) = true := List.any_eq_true.mpr ⟨_, m, by simp⟩
      rw [if_pos this]
      refine ⟨fun z => by omega, fun z => absurd rfl (z.2.2 _ m _ (by simp))⟩
    · have : ¬ (xs.take i).any (· == xs[i]) = true := fun z => by
        obtain ⟨y, hy, ey⟩ := List.any_eq_true.mp z
        rw [eq_of_beq ey] at hy
        exact m hy
      rw [if_neg this]
      refine ⟨fun z => ⟨ih.mp (by omega), by simp, fun a ha b hb q => ?_⟩, fun z => by have := ih.mpr z.1; omega⟩
      rw [List.mem_singleton] at hb
      subst hb
      subst q
      exact m ha
theorem nD_all (xs : List Str) : decide (((nD xs xs.length : Nat) : Int) = xs.length) = decide xs.Nodup := by
  have h := nD_nodup xs xs.length (Nat.le_refl _)
  rw [List.take_length] at h
  exact decide_eq_decide.mpr ⟨fun z => h.mp (by omega), fun z => by have := h.mpr z; omega⟩
end Dm

set_option Elab.async false
set_option linter.all false
set_option maxRecDepth 100000
set_option maxHeartbeats 4000000
/-! The data machine: chains, truths, membership, dicts, deep ==, while, zip, stars. -/
namespace Dm
open PySem PySem.Spec PyProof.Rows L2
section
variable {X : Cx} {a b c e : Expr} {es : List Expr} {wa wb wc we : DE} {wr ws : DA} {wt wu : DT} {pos : Pos}

/-! ### chains, and, or, not as values -/
def dChain (r r' : R2D) (wa wb wc : DE) : DE := fun δ O S => wa δ O fun x O1 => wb δ O1 fun y O2 => r x y O2 fun z O3 => ∃ k, z = .bl k ∧ if k = true then wc δ O3 fun w O4 => r' y w O4 S else S (.bl false) O3
theorem chain_sound {K : PySem.W.Frag} {r r' : R2} {rd rd' : R2D} {ta tb tc : TE} (h : SR2 K r rd) (h' : SR2 K r' rd') (ha : SE K ta wa) (hb : SE K tb wb) (hc : SE K tc wc) : SE K (tChain r r' ta tb tc) (dChain rd rd' wa wb wc) := fun F H θ O σ δ S j s q Q k => by
  refine ha F H θ O σ δ _ j s q _ fun v x F1 H1 θ1 O1 g1 j1 r1 q1 => ?_
  refine hb F1 H1 θ1 O1 σ δ _ j1 (s.mono g1) q1 _ fun u y F2 H2 θ2 O2 g2 j2 r2 q2 => ?_
  refine h F2 H2 θ2 O2 x y v u _ j2 (r1.mono g2) r2 q2 _ fun z w F3 H3 θ3 O3 g3 j3 r3 q3 => ?_
  obtain ⟨t, rfl, q3⟩ := q3
  have g := (g1.trans g2).trans g3
  refine ⟨t, r3.bl_inv, ?_⟩
  cases t with
  | false => exact k _ _ F3 H3 θ3 O3 g j3 (.bl false) q3
  | true =>
    refine hc F3 H3 θ3 O3 σ δ _ j3 (s.mono g) q3 _ fun w2 y2 F4 H4 θ4 O4 g4 j4 r4 q4 => ?_
    exact h' F4 H4 θ4 O4 y y2 u w2 S j4 ((r2.mono g3).mono g4) r4 q4 Q fun z w F5 H5 θ5 O5 g5 => k z w F5 H5 θ5 O5 ((g.trans g4).trans g5)
theorem ed_chain {op op' : CmpOp} {r r' : R2} {rd rd' : R2D} (ho : OpR X (compareOp op) r) (ho' : OpR X (compareOp op') r') (h : SR2 X.K r rd) (h' : SR2 X.K r' rd') (ha : ED X a wa) (hb : ED X b wb) (hc : ED X c wc) (hm : lastMarks [op, op'] [b, c] = false := by with_unfolding_all rfl) :
    ED X (.Compare a [op, op'] [b, c] pos) (dChain rd rd' wa wb wc) := by
  obtain ⟨ta, pa, sa⟩ := ha.ex
  obtain ⟨tb, pb, sb⟩ := hb.ex
  obtain ⟨tc, pc, sc⟩ := hc.ex
  exact ⟨_, pe_chain ho ho' pa pb pc hm, chain_sound h h' sa sb sc⟩
abbrev cle : R2D := rdI0 fun i j => .bl (decide (i ≤ j))
abbrev clt : R2D := rdI0 fun i j => .bl (decide (i < j))
def dAndV (wa wb : DE) : DE := fun δ O S => wa δ O fun x O1 => ∃ t, x = .bl t ∧ if t = true then wb δ O1 S else S (.bl false) O1
def dOrV (wa wb : DE) : DE := fun δ O S => wa δ O fun x O1 => ∃ t, x = .bl t ∧ if t = true then S (.bl true) O1 else wb δ O1 S
def dNotV (wa : DE) : DE := fun δ O S => wa δ O fun x O1 => ∃ t, x = .bl t ∧ S (.bl (!t)) O1
theorem ed_one {op} (h : ED X a wa) : ED X (.BoolOp op [a] pos) wa := let ⟨t, p, s⟩ := h.ex; ⟨t, pe_one p, s⟩
theorem ed_and {rest : List Expr} (h : ED X a wa) (hr : ED X (.BoolOp .And (b :: rest) pos) wb) : ED X (.BoolOp .And (a :: b :: rest) pos) (dAndV wa wb) := by
  obtain ⟨t, p, s⟩ := h.ex
  obtain ⟨t2, p2, s2⟩ := hr.ex
  refine ⟨_, pe_and p p2, fun F H θ O σ δ S j r q Q k => ?_⟩
  refine s F H θ O σ δ _ j r q _ fun v x F1 H1 θ1 O1 g1 j1 r1 q1 => ?_
  obtain ⟨t, rfl, q1⟩ := q1
  refine ⟨t, r1.bl_inv, ?_⟩
  cases t with
  | true => exact s2 F1 H1 θ1 O1 σ δ S j1 (r.mono g1) q1 Q fun z w F2 H2 θ2 O2 g2 => k z w F2 H2 θ2 O2 (g1.trans g2)
  | false => exact k _ _ F1 H1 θ1 O1 g1 j1 (.bl false) q1
theorem ed_or {rest : List Expr} (h : ED X a wa) (hr : ED X (.BoolOp .Or (b :: rest) pos) wb) : ED X (.BoolOp .Or (a :: b :: rest) pos) (dOrV wa wb) := by
  obtain ⟨t, p, s⟩ := h.ex
  obtain ⟨t2, p2, s2⟩ := hr.ex
  refine ⟨_, pe_or p p2, fun F H θ O σ δ S j r q Q k => ?_⟩
  refine s F H θ O σ δ _ j r q _ fun v x F1 H1 θ1 O1 g1 j1 r1 q1 => ?_
  obtain ⟨t, rfl, q1⟩ := q1
  refine ⟨t, r1.bl_inv, ?_⟩
  cases t with
  | false => exact s2 F1 H1 θ1 O1 σ δ S j1 (r.mono g1) q1 Q fun z w F2 H2 θ2 O2 g2 => k z w F2 H2 θ2 O2 (g1.trans g2)
  | true => exact k _ _ F1 H1 θ1 O1 g1 j1 (.bl true) q1
theorem ed_not (h : ED X a wa) : ED X (.UnaryOp .Not a pos) (dNotV wa) := by
  obtain ⟨t, p, s⟩ := h.ex
  refine ⟨_, pe_not p, fun F H θ O σ δ S j r q Q k => ?_⟩
  refine s F H θ O σ δ _ j r q _ fun v x F1 H1 θ1 O1 g1 j1 r1 q1 => ?_
  obtain ⟨t, rfl, q1⟩ := q1
  exact ⟨t, r1.bl_inv, k _ _ F1 H1 θ1 O1 g1 j1 (.bl _) q1⟩
/-- a built-in class by its name; a constant of the module -/
theorem ed_bltn {x : Str} {T : String} (hg : Gl X x) (hm : X.mg x = none) (hv : bootBuiltins x = some (.type T)) (hn : x ≠ "__name__" := by decide) (hd : (x == ("__debug__" : Str)) = false := by decide) : ED X (.Name x pos) (dC (.ty T)) :=
  ⟨_, pe_bltn (v := .ty T) hg hm hv rfl hn hd, SE.pure fun _ _ => .ty T⟩
theorem ed_gint {x : Str} {i : Int} {t : Tok} (hg : Gl X x) (hm : X.mg x = some (.int i t)) (hd : (x == ("__debug__" : Str)) = false := by decide) : ED X (.Name x pos) (dC (.int i)) := ⟨_, pe_glob (v := .int i) hg hm ⟨t, rfl⟩ hd, SE.pure fun _ _ => .int i⟩
theorem ed_gstr {x : Str} {y : Str} {t : Tok} (hg : Gl X x) (hm : X.mg x = some (.str y t)) (hd : (x == ("__debug__" : Str)) = false := by decide) : ED X (.Name x pos) (dC (.str y)) := ⟨_, pe_glob (v := .str y) hg hm ⟨t, rfl⟩ hd, SE.pure fun _ _ => .str y⟩

/-! ### isinstance -/
def tyW (x : W) (O : Sto) : Option String := match x with
  | .non => some "NoneType" | .bl _ => some "bool" | .int _ => some "int" | .str _ => some "str" | .tup _ => some "tuple"
  | .cell k => (match O[k]? with | some (.lst _) => some "list" | some (.rol _) => some "list" | some (.dct _) => some "dict" | _ => none)
  | _ => none
def rdIsi : RCD := fun ws O S => ∃ x T t b, ws = [x, .ty T] ∧ tyW x O = some t ∧ kitB t T = some b ∧ S (.bl b) O
theorem tyW_ok {K : PySem.W.Frag} {F H : Hp} {θ : List Addr} {O : Sto} {v : V} {x : W} {t : String} (j : Jn K F H θ O) (r : RW K F θ v x) (h : tyW x O = some t) : TyX K H v (.type t) := by
  cases x with
  | non => cases h; rw [r.non_inv]; exact .base .non
  | bl z => cases h; rw [r.bl_inv]; exact .base (.bl z)
  | int i => cases h; rw [r.int_inv]; exact .base (.int i)
  | str z => cases h; rw [r.str_inv]; exact .base (.str z)
  | tup us =>
    cases h
    obtain ⟨a, vs, rfl, hq, _⟩ := r.tup_inv
    rcases hq with (hq | ⟨o, hq⟩) | ⟨o, its, n, hk, hc, _⟩
    · exact .base (.tup (j.sub a _ hq))
    · exact .fTuple (j.sub a _ hq)
    · exact .kTuple hk hc
  | cell k =>
    obtain ⟨a, rfl, ha⟩ := r.cell_inv
    unfold tyW at h
    cases e : O[k]? with
    | none => simp [e] at h
    | some c =>
      simp only [e] at h
      cases c with
      | dead => cases h
      | lst us => cases h; obtain ⟨_, vs, hv, _⟩ := j.lst ha e; exact .base (.lst hv)
      | rol us => cases h; obtain ⟨_, o, vs, hv, _⟩ := j.rol ha e; exact .base (.frz hv)
      | dct kvs => cases h; obtain ⟨_, vs, hv, _⟩ := (show F a = none ∧ ∃ vs, H a = some (.dK vs) ∧ KvR K F θ vs kvs from j.ok k a _ ha e); exact .base (.dK hv)
      | exc C => cases h
      | exr C i => cases h
      | exf fs => cases h
      | xd fs => cases h
  | ty n => cases h
  | ref a => cases h
  | xr a d dk => cases h
  | rng lo hi => cases h
theorem src_isi {K : PySem.W.Frag} : SRC K (rIsi K) rdIsi := by
  intro F H θ O vs ws S j r q Q k
  obtain ⟨x, T, t, b, rfl, ht, hb, q⟩ := q
  obtain ⟨v, u, rfl, rv, ru⟩ := r.two_inv
  rw [ru.ty_inv]
  refine ⟨v, .ty T, .type t, .type T, b, rfl, ?_, tyW_ok j rv ht, kit_ty hb, k _ _ F H θ O Gr.refl j (.bl b) q⟩
  constructor

/-! ### in -/
def flatW : W → Bool
  | .non => true | .bl _ => true | .int _ => true | .str _ => true
  | _ => false
def eqW : W → W → Bool
  | .non, .non => true
  | .bl a, .bl b => a == b
  | .bl a, .int b => (if a then 1 else 0) == b
  | .int a, .bl b => a == (if b then 1 else 0)
  | .int a, .int b => a == b
  | .str a, .str b => a == b
  | _, _ => false
def inW (x : W) (xs : List W) : Bool := xs.any fun y => eqW y x
theorem flat_rel {K : PySem.W.Frag} {F : Hp} {θ : List Addr} {v : V} {x : W} (r : RW K F θ v x) (h : flatW x = true) : flatV v = true := by cases r <;> first | rfl | exact absurd h Bool.false_ne_true
theorem flats_rel {K : PySem.W.Frag} {F : Hp} {θ : List Addr} : ∀ {vs : List V} {xs : List W}, RWs K F θ vs xs → xs.all flatW = true → vs.all flatV = true
  | _, _, .nil, _ => rfl
  | _, _, .cons r t, h => by
    rw [List.all_cons, Bool.and_eq_true] at h ⊢
    exact ⟨flat_rel r h.1, flats_rel t h.2⟩
theorem eq_rel {K : PySem.W.Frag} {F : Hp} {θ : List Addr} {v u : V} {x y : W} (r : RW K F θ v x) (q : RW K F θ u y) (h : flatW x = true) : eqV v u = eqW x y := by
  cases r <;> cases q <;> first | rfl | exact absurd h Bool.false_ne_true
theorem in_rel {K : PySem.W.Frag} {F : Hp} {θ : List Addr} {v : V} {x : W} (r : RW K F θ v x) : ∀ {vs : List V} {xs : List W}, RWs K F θ vs xs → xs.all flatW = true → inV v vs = inW x xs
  | _, _, .nil, _ => rfl
  | _, _, .cons q t, h => by
    rw [List.all_cons, Bool.and_eq_true] at h
    have ih := in_rel r t h.2
    unfold inV inW at ih ⊢
    rw [List.any_cons, List.any_cons, eq_rel q r h.1, ih]
def rdInQ : R2D := fun x y O S => ∃ xs, (y = .tup xs ∨ ∃ k, y = .cell k ∧ LstC O k xs) ∧ flatW x = true ∧ xs.all flatW = true ∧ S (.bl (inW x xs)) O
def rdNinQ : R2D := fun x y O S => ∃ xs, (y = .tup xs ∨ ∃ k, y = .cell k ∧ LstC O k xs) ∧ flatW x = true ∧ xs.all flatW = true ∧ S (.bl (!inW x xs)) O
theorem seq_rel {K : PySem.W.Frag} {F H : Hp} {θ : List Addr} {O : Sto} {u : V} {y : W} {xs : List W} (j : Jn K F H θ O) (r : RW K F θ u y) (h : y = .tup xs ∨ ∃ k, y = .cell k ∧ LstC O k xs) : ∃ p vs, u = .ref p ∧ (SqL K H p vs ∨ SqT K H p vs) ∧ RWs K F θ vs xs := by
  rcases h with rfl | ⟨k, rfl, hc⟩
  · obtain ⟨p, vs, rfl, hq, rr⟩ := r.tup_inv
    exact ⟨p, vs, rfl, .inr (sqT_sub j hq), rr⟩
  · obtain ⟨p, rfl, hp⟩ := r.cell_inv
    obtain ⟨vs, hl, rr⟩ := j.lstC hp hc
    exact ⟨p, vs, rfl, .inl hl, rr⟩
theorem sr_inQ {K : PySem.W.Frag} : SR2 K (rIn K false) rdInQ := by
  intro F H θ O x y v u S j rx ry q Q k
  obtain ⟨xs, h, h1, h2, q⟩ := q
  obtain ⟨p, vs, rfl, hq, rr⟩ := seq_rel j ry h
  exact ⟨p, vs, rfl, hq, flat_rel rx h1, flats_rel rr h2, by rw [if_neg Bool.false_ne_true, in_rel rx rr h2]; exact k _ _ F H θ O Gr.refl j (.bl _) q⟩
theorem sr_ninQ {K : PySem.W.Frag} : SR2 K (rIn K true) rdNinQ := by
  intro F H θ O x y v u S j rx ry q Q k
  obtain ⟨xs, h, h1, h2, q⟩ := q
  obtain ⟨p, vs, rfl, hq, rr⟩ := seq_rel j ry h
  exact ⟨p, vs, rfl, hq, flat_rel rx h1, flats_rel rr h2, by rw [if_pos rfl, in_rel rx rr h2]; exact k _ _ F H θ O Gr.refl j (.bl _) q⟩
/-- one sign in a text -/
def rdInS : R2D := fun x y O S => ∃ (c : Nat) (z : Str), x = .str ⟨#[c]⟩ ∧ y = .str z ∧ S (.bl (decide (c ∈ z.cps.toList))) O
theorem sr_inS {K : PySem.W.Frag} : SR2 K (fun x y H Q => ∃ (c : Nat) (z : Str), x = .str ⟨#[c]⟩ ∧ y = .str z ∧ Q (.bl (decide (c ∈ z.cps.toList))) H) rdInS := by
  intro F H θ O x y v u S j rx ry q Q k
  obtain ⟨c, z, rfl, rfl, q⟩ := q
  exact ⟨c, z, rx.str_inv, ry.str_inv, k _ _ F H θ O Gr.refl j (.bl _) q⟩
/-- a key of a dict -/
def keyW : W → Option Key
  | .int i => some (.inl i)
  | .str x => some (.inr x)
  | _ => none
def valW (kvs : List (Key × W)) (k : Key) : Option W := (kvs.find? fun kv => decide (kv.1 = k)).map (·.2)
def putW (kvs : List (Key × W)) (k : Key) (v : W) : List (Key × W) := if (kvs.any fun kv => decide (kv.1 = k)) = true then kvs.map (fun kv => if kv.1 = k then (kv.1, v) else kv) else kvs ++ [(k, v)]
theorem key_rel {K : PySem.W.Frag} {F : Hp} {θ : List Addr} {v : V} {x : W} {k : Key} (r : RW K F θ v x) (h : keyW x = some k) : v = kV k := by
  cases x <;> first | (cases h; first | rw [r.int_inv]; rfl | rw [r.str_inv]; rfl) | cases h
theorem val_rel {K : PySem.W.Frag} {F : Hp} {θ : List Addr} (k : Key) : ∀ {vs : List (Key × V)} {kvs : List (Key × W)}, KvR K F θ vs kvs → (valV vs k = none ∧ valW kvs k = none) ∨ ∃ v w, valV vs k = some v ∧ valW kvs k = some w ∧ RW K F θ v w
  | _, _, .nil => .inl ⟨rfl, rfl⟩
  | (k1, v1) :: vs, (k2, w2) :: kvs, .cons r t => by
    obtain ⟨e, rv⟩ := r
    have e' : k1 = k2 := e
    subst e'
    unfold valV valW
    by_cases h : k1 = k
    · refine .inr ⟨v1, w2, ?_, ?_, rv⟩ <;> simp [List.find?, h]
    · have := val_rel k t
      unfold valV valW at this
      simp only [List.find?, decide_eq_false h]
      exact this
theorem anyk_rel {K : PySem.W.Frag} {F : Hp} {θ : List Addr} (k : Key) : ∀ {vs : List (Key × V)} {kvs : List (Key × W)}, KvR K F θ vs kvs → (vs.any fun kv => decide (kv.1 = k)) = kvs.any fun kv => decide (kv.1 = k)
  | _, _, .nil => rfl
  | _, _, .cons r t => by rw [List.any_cons, List.any_cons, r.1, anyk_rel k t]
theorem mapk_rel {K : PySem.W.Frag} {F : Hp} {θ : List Addr} (k : Key) {v : V} {w : W} (rv : RW K F θ v w) : ∀ {vs : List (Key × V)} {kvs : List (Key × W)}, KvR K F θ vs kvs → KvR K F θ (vs.map fun kv => if kv.1 = k then (kv.1, v) else kv) (kvs.map fun kv => if kv.1 = k then (kv.1, w) else kv)
  | _, _, .nil => .nil
  | (k1, v1) :: vs, (k2, w2) :: kvs, .cons r t => by
    obtain ⟨e, r2⟩ := r
    have e' : k1 = k2 := e
    subst e'
    refine .cons ?_ (mapk_rel k rv t)
    by_cases h : k1 = k
    · dsimp only
      rw [if_pos h, if_pos h]
      exact ⟨rfl, rv⟩
    · dsimp only
      rw [if_neg h, if_neg h]
      exact ⟨rfl, r2⟩
theorem appk_rel {K : PySem.W.Frag} {F : Hp} {θ : List Addr} {p : Key × V} {q : Key × W} (r : p.1 = q.1 ∧ RW K F θ p.2 q.2) : ∀ {vs : List (Key × V)} {kvs : List (Key × W)}, KvR K F θ vs kvs → KvR K F θ (vs ++ [p]) (kvs ++ [q])
  | _, _, .nil => .cons r .nil
  | _, _, .cons z t => .cons z (appk_rel r t)
theorem put_rel {K : PySem.W.Frag} {F : Hp} {θ : List Addr} (k : Key) {v : V} {w : W} (rv : RW K F θ v w) {vs : List (Key × V)} {kvs : List (Key × W)} (h : KvR K F θ vs kvs) : KvR K F θ (putK vs k v) (putW kvs k w) := by
  unfold putK putW
  rw [anyk_rel k h]
  split
  · exact mapk_rel k rv h
  · exact appk_rel ⟨rfl, rv⟩ h
theorem kv_len {K : PySem.W.Frag} {F : Hp} {θ : List Addr} : ∀ {vs : List (Key × V)} {kvs : List (Key × W)}, KvR K F θ vs kvs → vs.length = kvs.length
  | _, _, .nil => rfl
  | _, _, .cons _ t => by rw [List.length_cons, List.length_cons, kv_len t]
theorem Jn.dct {K : PySem.W.Frag} {F H : Hp} {θ : List Addr} {O : Sto} (j : Jn K F H θ O) {k : Nat} {a : Addr} {kvs : List (Key × W)} (e : θ[k]? = some a) (c : O[k]? = some (.dct kvs)) : F a = none ∧ ∃ vs, H a = some (.dK vs) ∧ KvR K F θ vs kvs := j.ok k a _ e c
theorem Jn.putD {K : PySem.W.Frag} {F H : Hp} {θ : List Addr} {O : Sto} (j : Jn K F H θ O) {k : Nat} {a : Addr} {vs : List (Key × V)} {kvs : List (Key × W)} (e : θ[k]? = some a) (f : F a = none) (r : KvR K F θ vs kvs) : Jn K F (L2.upd H a (.dK vs)) θ (O.set k (.dct kvs)) :=
  j.put e f ⟨f, vs, upd_same, r⟩

/-! ### dicts -/
variable {X : Cx} {a b c e : Expr} {es : List Expr} {wa wb wc we : DE} {wr ws : DA} {wt wu : DT} {pos : Pos}
def rInD (neg : Bool) : R2 := fun y x H Q => ∃ a o, x = .ref a ∧ DGet H a y o ∧ Q (.bl (if neg then !o.isSome else o.isSome)) H
theorem op_inD (hu : X.A.units + 1 < cLine) : OpR X (compareOp .In) (rInD false) := by
  intro pins s σ H y x v u Q I ry rx h
  obtain ⟨a, o, rfl, g, q⟩ := h
  obtain rfl : u = Value.ref a := rx
  exact d_in hu I g ry fun s3 I3 => ⟨.bl o.isSome, H, I3, rfl, q⟩
theorem op_ninD (hu : X.A.units + 1 < cLine) : OpR X (compareOp .NotIn) (rInD true) := by
  intro pins s σ H y x v u Q I ry rx h
  obtain ⟨a, o, rfl, g, q⟩ := h
  obtain rfl : u = Value.ref a := rx
  exact d_notIn hu I g ry fun s3 I3 => ⟨.bl (!o.isSome), H, I3, rfl, q⟩
theorem OpR.or {f : Value → Value → Sem Value} {r r' : R2} (h : OpR X f r) (h' : OpR X f r') : OpR X f (fun x y H Q => r x y H Q ∨ r' x y H Q) := by
  intro pins s σ H y x v u Q I ry rx q
  rcases q with q | q
  · exact h pins s σ H y x v u Q I ry rx q
  · exact h' pins s σ H y x v u Q I ry rx q
def rdInD : R2D := fun x y O S => ∃ k kvs key, y = .cell k ∧ O[k]? = some (.dct kvs) ∧ keyW x = some key ∧ S (.bl (valW kvs key).isSome) O
def rdNinD : R2D := fun x y O S => ∃ k kvs key, y = .cell k ∧ O[k]? = some (.dct kvs) ∧ keyW x = some key ∧ S (.bl (!(valW kvs key).isSome)) O
theorem sr_inD {K : PySem.W.Frag} : SR2 K (rInD false) rdInD := by
  intro F H θ O x y v u S j rx ry q Q k
  obtain ⟨c, kvs, key, rfl, hc, hk, q⟩ := q
  obtain ⟨a, rfl, ha⟩ := ry.cell_inv
  obtain ⟨f, vs, hv, rr⟩ := j.dct ha hc
  refine ⟨a, valV vs key, rfl, by rw [key_rel rx hk]; exact DGet.k hv, ?_⟩
  have e : (valV vs key).isSome = (valW kvs key).isSome := by
    rcases val_rel key rr with ⟨e1, e2⟩ | ⟨_, _, e1, e2, _⟩ <;> rw [e1, e2] <;> rfl
  rw [if_neg Bool.false_ne_true, e]
  exact k _ _ F H θ O Gr.refl j (.bl _) q
theorem sr_ninD {K : PySem.W.Frag} : SR2 K (rInD true) rdNinD := by
  intro F H θ O x y v u S j rx ry q Q k
  obtain ⟨c, kvs, key, rfl, hc, hk, q⟩ := q
  obtain ⟨a, rfl, ha⟩ := ry.cell_inv
  obtain ⟨f, vs, hv, rr⟩ := j.dct ha hc
  refine ⟨a, valV vs key, rfl, by rw [key_rel rx hk]; exact DGet.k hv, ?_⟩
  have e : (valV vs key).isSome = (valW kvs key).isSome := by
    rcases val_rel key rr with ⟨e1, e2⟩ | ⟨_, _, e1, e2, _⟩ <;> rw [e1, e2] <;> rfl
  rw [if_pos rfl, e]
  exact k _ _ F H θ O Gr.refl j (.bl _) q
theorem behind (b : Expr) {op : CmpOp} (h : behindInMarks op b = false) : behindInMarks op b = false := h
theorem ed_inQ (ha : ED X a wa) (hb : ED X b wb) (hm : behindInMarks .In b = false := by with_unfolding_all rfl) : ED X (.Compare a [.In] [b] pos) (dOp rdInQ wa wb) := ed_cmp op_in_seq sr_inQ ha hb hm
theorem ed_ninQ (ha : ED X a wa) (hb : ED X b wb) (hm : behindInMarks .NotIn b = false := by with_unfolding_all rfl) : ED X (.Compare a [.NotIn] [b] pos) (dOp rdNinQ wa wb) := ed_cmp op_notIn_seq sr_ninQ ha hb hm
theorem et_inQ (ha : ED X a wa) (hb : ED X b wb) (hm : behindInMarks .In b = false := by with_unfolding_all rfl) : EDT X (.Compare a [.In] [b] pos) (dTest (dOp rdInQ wa wb)) := et_cmp op_in_seq sr_inQ ha hb hm
theorem et_ninQ (ha : ED X a wa) (hb : ED X b wb) (hm : behindInMarks .NotIn b = false := by with_unfolding_all rfl) : EDT X (.Compare a [.NotIn] [b] pos) (dTest (dOp rdNinQ wa wb)) := et_cmp op_notIn_seq sr_ninQ ha hb hm
theorem ed_inS (ha : ED X a wa) (hb : ED X b wb) (hm : behindInMarks .In b = false := by with_unfolding_all rfl) : ED X (.Compare a [.In] [b] pos) (dOp rdInS wa wb) := ed_cmp op_in_sign sr_inS ha hb hm
theorem et_inS (ha : ED X a wa) (hb : ED X b wb) (hm : behindInMarks .In b = false := by with_unfolding_all rfl) : EDT X (.Compare a [.In] [b] pos) (dTest (dOp rdInS wa wb)) := et_cmp op_in_sign sr_inS ha hb hm
theorem ed_inD (hu : X.A.units + 1 < cLine) (ha : ED X a wa) (hb : ED X b wb) (hm : behindInMarks .In b = false := by with_unfolding_all rfl) : ED X (.Compare a [.In] [b] pos) (dOp rdInD wa wb) := ed_cmp (op_inD hu) sr_inD ha hb hm
theorem et_inD (hu : X.A.units + 1 < cLine) (ha : ED X a wa) (hb : ED X b wb) (hm : behindInMarks .In b = false := by with_unfolding_all rfl) : EDT X (.Compare a [.In] [b] pos) (dTest (dOp rdInD wa wb)) := et_cmp (op_inD hu) sr_inD ha hb hm
theorem et_ninD (hu : X.A.units + 1 < cLine) (ha : ED X a wa) (hb : ED X b wb) (hm : behindInMarks .NotIn b = false := by with_unfolding_all rfl) : EDT X (.Compare a [.NotIn] [b] pos) (dTest (dOp rdNinD wa wb)) := et_cmp (op_ninD hu) sr_ninD ha hb hm
/-- in, of a sequence or a dict -/
abbrev rdInU : R2D := fun x y O S => rdInQ x y O S ∨ rdInD x y O S
theorem ed_inU (hu : X.A.units + 1 < cLine) (ha : ED X a wa) (hb : ED X b wb) (hm : behindInMarks .In b = false := by with_unfolding_all rfl) : ED X (.Compare a [.In] [b] pos) (dOp rdInU wa wb) := ed_cmp (op_in_seq.or (op_inD hu)) (sr_inQ.or sr_inD) ha hb hm
/-- d[k] -/
def rdIxD : R2D := fun x y O S => ∃ k kvs key w, x = .cell k ∧ O[k]? = some (.dct kvs) ∧ keyW y = some key ∧ valW kvs key = some w ∧ S w O
theorem ed_ixD (hu : X.A.units + 1 < cLine) (ha : ED X a wa) (hb : ED X b wb) (hs : NoSl b := by exact fun _ _ => rfl) : ED X (.Subscript a b pos) (dOp rdIxD wa wb) := by
  obtain ⟨ta, pa, sa⟩ := ha.ex
  obtain ⟨tb, pb, sb⟩ := hb.ex
  refine ⟨_, pe_dget hu pa pb hs, fun F H θ O σ δ S j s q Q k => ?_⟩
  refine sa F H θ O σ δ _ j s q _ fun v x F1 H1 θ1 O1 g1 j1 r1 q1 => ?_
  refine sb F1 H1 θ1 O1 σ δ _ j1 (s.mono g1) q1 _ fun u y F2 H2 θ2 O2 g2 j2 r2 q2 => ?_
  obtain ⟨c, kvs, key, w, rfl, hc, hk, hw, q2⟩ := q2
  obtain ⟨p, rfl, hp⟩ := r1.cell_inv
  obtain ⟨f, vs, hv, rr⟩ := j2.dct (g2.at hp) hc
  rcases val_rel key rr with ⟨_, e2⟩ | ⟨v, w', e1, e2, rw'⟩
  · rw [e2] at hw
    cases hw
  · rw [e2] at hw
    cases hw
    exact ⟨p, v, rfl, by rw [key_rel r2 hk, ← e1]; exact DGet.k hv, k v w F2 H2 θ2 O2 (g1.trans g2) j2 rw' q2⟩
/-- d[k] = v -/
def dDput (wd wk wv : DE) : DTS := fun D δ O => wv δ O fun v O1 => wd δ O1 fun d O2 => wk δ O2 fun y O3 => ∃ k kvs key, d = .cell k ∧ O3[k]? = some (.dct kvs) ∧ keyW y = some key ∧ kvs.length < sizeLine ∧ D.nx δ (O3.set k (.dct (putW kvs key v)))
theorem es_dput {pos' : Pos} (hu : X.A.units + 1 < cLine) (ho : ED X a wa) (hi : ED X b wb) (hv : ED X e we) (hs : swapsWith e (some (.Subscript a b pos')) pos.line X.env = pure false := by rfl) : EDS X (.Assign [.Subscript a b pos'] e pos) (dDput wa wb we) := by
  obtain ⟨ta, pa, sa⟩ := ho.ex
  obtain ⟨tb, pb, sb⟩ := hi.ex
  obtain ⟨te, pe, se⟩ := hv.ex
  refine ⟨_, ps_dput hu pa pb pe hs, fun F H θ O σ δ D D' j s q l => ?_⟩
  refine se F H θ O σ δ _ j s q _ fun vv w F1 H1 θ1 O1 g1 j1 r1 q1 => ?_
  refine sa F1 H1 θ1 O1 σ δ _ j1 (s.mono g1) q1 _ fun x d F2 H2 θ2 O2 g2 j2 r2 q2 => ?_
  refine sb F2 H2 θ2 O2 σ δ _ j2 (s.mono (g1.trans g2)) q2 _ fun u y F3 H3 θ3 O3 g3 j3 r3 q3 => ?_
  obtain ⟨c, kvs, key, rfl, hc, hk, hz, q3⟩ := q3
  obtain ⟨p, rfl, hp⟩ := r2.cell_inv
  obtain ⟨f, vs, hv, rr⟩ := j3.dct (g3.at hp) hc
  have g := (g1.trans g2).trans g3
  exact ⟨p, _, rfl, by rw [key_rel r3 hk]; exact DPut.k hv (by rw [kv_len rr]; exact hz), l.nx F3 _ θ3 _ σ δ g (j3.putD (g3.at hp) f (put_rel key (r1.mono (g2.trans g3)) rr)) (s.mono g) q3⟩
def dDnew : DE := fun _ O S => S (.cell O.length) (O ++ [.dct []])
theorem ed_dnew : ED X (.Dict [] [] pos) dDnew := by
  refine ⟨_, pe_dnewK, fun F H θ O σ δ S j s q Q k p hp => ?_⟩
  exact k _ _ _ _ _ _ Gr.push (j.newC (c := .dct []) hp ⟨j.freeF hp, [], upd_same, .nil⟩) (.cell (by rw [← j.len]; simp)) q
def rdLenD : RCD := fun ws O S => ∃ k kvs, ws = [.cell k] ∧ O[k]? = some (.dct kvs) ∧ S (.int kvs.length) O
theorem src_lenD {K : PySem.W.Frag} : SRC K (fun xs H Q => ∃ a kvs, xs = [V.ref a] ∧ H a = some (.dK kvs) ∧ Q (.int kvs.length) H) rdLenD := by
  intro F H θ O vs ws S j r q Q k
  obtain ⟨c, kvs, rfl, hc, q⟩ := q
  obtain ⟨v, rfl, rv⟩ := r.one_inv
  obtain ⟨a, rfl, ha⟩ := rv.cell_inv
  obtain ⟨f, us, hu, rr⟩ := j.dct ha hc
  exact ⟨a, us, rfl, hu, by rw [kv_len rr]; exact k _ _ F H θ O Gr.refl j (.int _) q⟩

/-! ### all, sums of truths; stars in displays -/
def rdAll : RCD := fun ws O S => ∃ (k : Nat) (bs : List Bool), ws = [.cell k] ∧ LstC O k (bs.map W.bl) ∧ S (.bl (bs.all id)) O
theorem bls_rel {K : PySem.W.Frag} {F : Hp} {θ : List Addr} : ∀ {vs : List V} {ns : List Bool}, RWs K F θ vs (ns.map W.bl) → vs = ns.map V.bl
  | _, [], r => by cases r; rfl
  | _, n :: ns, r => by
    cases r with
    | cons a b => rw [a.bl_inv, bls_rel b]; rfl
theorem src_all {K : PySem.W.Frag} : SRC K (rAll K) rdAll := by
  intro F H θ O vs ws S j r q Q k
  obtain ⟨c, bs, rfl, hc, q⟩ := q
  obtain ⟨v, rfl, rv⟩ := r.one_inv
  obtain ⟨a, rfl, ha⟩ := rv.cell_inv
  obtain ⟨xs, hl, rr⟩ := j.lstC ha hc
  exact ⟨a, bs, rfl, by rw [← bls_rel rr]; exact hl, k _ _ F H θ O Gr.refl j (.bl _) q⟩
def dStar (we : DE) (wr : DA) : DA := fun δ O S => we δ O fun x O1 => ∃ us, (x = .tup us ∨ ∃ k, x = .cell k ∧ LstC O1 k us) ∧ wr δ O1 fun ws O2 => S (us ++ ws) O2
theorem ea_star {p : Pos} (h : ED X e we) (hr : EDA X es wr) (hs : starEach (.Starred e p :: es) X.env = (true, eval e X.env) :: starEach es X.env := by rfl) : EDA X (.Starred e p :: es) (dStar we wr) := by
  obtain ⟨t, pe, s⟩ := h.ex
  obtain ⟨t2, p2, s2⟩ := hr.ex
  refine ⟨_, StX.pa_star pe p2 hs, fun F H θ O σ δ S j r q Q k => ?_⟩
  refine s F H θ O σ δ _ j r q _ fun v x F1 H1 θ1 O1 g1 j1 r1 q1 => ?_
  obtain ⟨us, hx, q1⟩ := q1
  obtain ⟨a, vs, rfl, hq, rr⟩ := seq_rel j1 r1 hx
  refine ⟨a, vs, rfl, hq.symm, ?_⟩
  exact s2 F1 H1 θ1 O1 σ δ _ j1 (r.mono g1) q1 _ fun zs ws F2 H2 θ2 O2 g2 j2 r2 q2 => k _ _ F2 H2 θ2 O2 (g1.trans g2) j2 ((rr.mono g2).append r2) q2

/-! ### while, op=, truth -/
def dWhile (wt : DT) (wb : DTS) : DTS := fun D δ O => ∃ Pv : Nat → DS → Sto → Prop, (∃ m, Pv m δ O) ∧ ∀ m δ O, Pv m δ O → wt δ O fun b O1 => if b = true then ∃ N : DS → Sto → Prop, (∀ δ' O', N δ' O' → ∃ m', m' < m ∧ Pv m' δ' O') ∧ wb { D with nx := N, ct := N, bk := D.nx } δ O1 else D.nx δ O1
theorem es_while {body : List Stmt} {wb' : DTS} (hp : PassesOwn (model X.prog X.w) X.A X.env X.xe) (hc : EDT X c wt) (hb : EDB X body wb') : EDS X (.While c body [] pos) (dWhile wt wb') := by
  obtain ⟨t0, p0, s0⟩ := hc.ex
  obtain ⟨t1, p1, s1⟩ := hb.ex
  refine ⟨_, ps_while hp p0 p1, fun F H θ O σ δ D D' j s q l => ?_⟩
  obtain ⟨Pv, ⟨m0, h0⟩, turn⟩ := q
  refine ⟨fun m σ' H' => ∃ F' θ' O' δ', Gr F θ F' θ' ∧ Jn X.K F' H' θ' O' ∧ RS X.K F' θ' σ' δ' ∧ Pv m δ' O', ⟨m0, F, θ, O, δ, Gr.refl, j, s, h0⟩, ?_⟩
  rintro m σ2 H2 ⟨F2, θ2, O2, δ2, g2, j2, s2, pv⟩
  refine s0 F2 H2 θ2 O2 σ2 δ2 _ j2 s2 (turn m δ2 O2 pv) _ fun b F3 H3 θ3 O3 g3 j3 q3 => ?_
  have g := g2.trans g3
  cases b with
  | false => exact l.nx F3 H3 θ3 O3 σ2 δ2 g j3 (s2.mono g3) q3
  | true =>
    obtain ⟨N, hN, q3⟩ := q3
    rw [if_pos rfl]
    refine ⟨fun σ' H' => ∃ F' θ' O' δ', Gr F θ F' θ' ∧ Jn X.K F' H' θ' O' ∧ RS X.K F' θ' σ' δ' ∧ N δ' O', fun σ' H' h => ?_, ?_⟩
    · obtain ⟨F', θ', O', δ', a1, a2, a3, a4⟩ := h
      obtain ⟨m', lt, w⟩ := hN δ' O' a4
      exact ⟨m', lt, F', θ', O', δ', a1, a2, a3, w⟩
    · refine s1 F3 H3 θ3 O3 σ2 δ2 _ _ j3 (s2.mono g3) q3 ⟨fun F' H' θ' O' σ' δ' g' j' s' q' => ⟨F', θ', O', δ', g.trans g', j', s', q'⟩, fun F' H' θ' O' v w' g' j' r' q' => l.rt F' H' θ' O' v w' (g.trans g') j' r' q', fun F' H' θ' O' σ' δ' g' j' s' q' => l.nx F' H' θ' O' σ' δ' (g.trans g') j' s' q', fun F' H' θ' O' σ' δ' g' j' s' q' => ⟨F', θ', O', δ', g.trans g', j', s', q'⟩⟩
def dAug (i : Nat) (we : DE) (f : Int → Int → Int) : DTS := fun D δ O => ∃ x, δ[i]? = some (some x) ∧ we δ O fun y O1 => ∃ n m, x = .int n ∧ y = .int m ∧ D.nx (δ.set i (some (.int (f n m)))) O1
theorem es_augAdd {i : Nat} {x : Str} {pos' : Pos} (hN : X.N.Nodup) (hi : X.N[i]? = some x) (hx : Loc X.env.scope x) (h : ED X e we) (hf : X.fn x = true ∨ X.env.scope.names.lookup x = some .local := by first | exact .inl rfl | exact .inr rfl | assumption) :
    EDS X (.AugAssign (.Name x pos') .Add e pos) (dAug i we fun n m => n + m) := by
  obtain ⟨t0, p0, s0⟩ := h.ex
  refine ⟨_, ps_aug hN hi hx p0 ip_add hf, fun F H θ O σ δ D D' j s q l => ?_⟩
  obtain ⟨z, e1, q⟩ := q
  obtain ⟨v, e2, rv⟩ := s.2 i z e1
  refine ⟨v, e2, s0 F H θ O σ δ _ j s q _ fun u y F1 H1 θ1 O1 g1 j1 r1 q1 => ?_⟩
  obtain ⟨n, m, rfl, rfl, q1⟩ := q1
  exact ⟨n, m, rv.int_inv, r1.int_inv, l.nx F1 H1 θ1 O1 _ _ g1 j1 ((s.mono g1).set i (.int _)) q1⟩
/-- a value's truth: a list's, a tuple's -/
def dTru (we : DE) : DT := fun δ O S => we δ O fun x O1 => ∃ us, (x = .tup us ∨ ∃ k, x = .cell k ∧ LstC O1 k us) ∧ S (!us.isEmpty) O1
theorem et_tru (h : ED X a wa) (he : ∀ whole, isTrue a X.env whole = (do let v ← whole; standAt a.pos; holding [v] (truthy v)) := by intro _; rfl) : EDT X a (dTru wa) := by
  obtain ⟨t0, p0, s0⟩ := h.ex
  refine ⟨_, pt_truth p0 he, fun F H θ O σ δ S j s q Q k => ?_⟩
  refine s0 F H θ O σ δ _ j s q _ fun v x F1 H1 θ1 O1 g1 j1 r1 q1 => ?_
  obtain ⟨us, hx, q1⟩ := q1
  obtain ⟨p, vs, rfl, hq, rr⟩ := seq_rel j1 r1 hx
  have e : vs.isEmpty = us.isEmpty := by cases rr <;> rfl
  refine ⟨!us.isEmpty, ?_, k _ F1 H1 θ1 O1 g1 j1 q1⟩
  rcases hq with hq | hq
  · exact .inl ⟨vs, hq, by rw [e]⟩
  · exact .inr (.inl ⟨vs, hq, by rw [e]⟩)

/-! ### deep == -/
mutual
/-- the data that a value bears -/
inductive DW (O : Sto) : W → PyData → Prop
  | non : DW O .non .none
  | bl (b : Bool) : DW O (.bl b) (.bool b)
  | int (i : Int) : DW O (.int i) (.int i)
  | str (x : Str) : DW O (.str x) (.str x)
  | tup {ws : List W} {ds : List PyData} : DWs O ws ds → DW O (.tup ws) (.tuple ds)
  | cell {k : Nat} {ws : List W} {ds : List PyData} : LstC O k ws → DWs O ws ds → DW O (.cell k) (.list ds)
inductive DWs (O : Sto) : List W → List PyData → Prop
  | nil : DWs O [] []
  | cons {w : W} {ws : List W} {d : PyData} {ds : List PyData} : DW O w d → DWs O ws ds → DWs O (w :: ws) (d :: ds)
end
mutual
theorem DW.dp {K : PySem.W.Frag} {F H : Hp} {θ : List Addr} {O : Sto} (j : Jn K F H θ O) : ∀ {w : W} {d : PyData} {v : V}, DW O w d → RW K F θ v w → Dp K H v d
  | _, _, _, .non, r => by rw [r.non_inv]; exact .non
  | _, _, _, .bl b, r => by rw [r.bl_inv]; exact .bl b
  | _, _, _, .int i, r => by rw [r.int_inv]; exact .int i
  | _, _, _, .str x, r => by rw [r.str_inv]; exact .str x
  | _, _, _, .tup h, r => by
    obtain ⟨a, vs, rfl, hq, rr⟩ := r.tup_inv
    exact .tup (sqT_sub j hq) (DWs.dp j h rr)
  | _, _, _, .cell c h, r => by
    obtain ⟨a, rfl, ha⟩ := r.cell_inv
    obtain ⟨vs, hl, rr⟩ := j.lstC ha c
    exact .lst hl (DWs.dp j h rr)
theorem DWs.dp {K : PySem.W.Frag} {F H : Hp} {θ : List Addr} {O : Sto} (j : Jn K F H θ O) : ∀ {w : List W} {d : List PyData} {v : List V}, DWs O w d → RWs K F θ v w → DpAll K H v d
  | _, _, _, .nil, r => by cases r; exact .nil
  | _, _, _, .cons h t, r => by
    cases r with
    | cons r rr => exact .cons (DW.dp j h r) (DWs.dp j t rr)
end
def rEqP (K : PySem.W.Frag) (neg : Bool) : R2 := fun x y H Q => ∃ d e, Dp K H x d ∧ Dp K H y e ∧ d.plain = true ∧ e.plain = true ∧ min d.depth e.depth ≤ 64 ∧ Q (.bl (if neg then !PyData.eqv d e else PyData.eqv d e)) H
theorem op_eqP (hu : X.A.units + 64 < cLine) : OpR X (compareOp .Eq) (rEqP X.K false) := by
  intro pins s σ H x y v u Q I rx ry h
  obtain ⟨d, e, hd, he, h1, h2, h3, q⟩ := h
  obtain ⟨as, r1⟩ := Dp.reads I d x v hd rx
  obtain ⟨bs, r2⟩ := Dp.reads I e y u he ry
  exact SeqAt.eq_plain r1 r2 h1 h2 (by omega) ⟨.bl _, H, I, rfl, q⟩
theorem op_neP (hu : X.A.units + 64 < cLine) : OpR X (compareOp .NotEq) (rEqP X.K true) := by
  intro pins s σ H x y v u Q I rx ry h
  obtain ⟨d, e, hd, he, h1, h2, h3, q⟩ := h
  obtain ⟨as, r1⟩ := Dp.reads I d x v hd rx
  obtain ⟨bs, r2⟩ := Dp.reads I e y u he ry
  exact SeqAt.ne_plain r1 r2 h1 h2 (by omega) ⟨.bl _, H, I, rfl, q⟩
def rdEqD : R2D := fun x y O S => ∃ d e, DW O x d ∧ DW O y e ∧ d.plain = true ∧ e.plain = true ∧ min d.depth e.depth ≤ 64 ∧ S (.bl (PyData.eqv d e)) O
def rdNeD : R2D := fun x y O S => ∃ d e, DW O x d ∧ DW O y e ∧ d.plain = true ∧ e.plain = true ∧ min d.depth e.depth ≤ 64 ∧ S (.bl (!PyData.eqv d e)) O
theorem sr_eqD {K : PySem.W.Frag} : SR2 K (rEqP K false) rdEqD := by
  intro F H θ O x y v u S j rx ry q Q k
  obtain ⟨d, e, hd, he, h1, h2, h3, q⟩ := q
  exact ⟨d, e, hd.dp j rx, he.dp j ry, h1, h2, h3, k _ _ F H θ O Gr.refl j (.bl _) q⟩
theorem sr_neD {K : PySem.W.Frag} : SR2 K (rEqP K true) rdNeD := by
  intro F H θ O x y v u S j rx ry q Q k
  obtain ⟨d, e, hd, he, h1, h2, h3, q⟩ := q
  exact ⟨d, e, hd.dp j rx, he.dp j ry, h1, h2, h3, k _ _ F H θ O Gr.refl j (.bl _) q⟩
theorem et_eqD (hu : X.A.units + 64 < cLine) (ha : ED X a wa) (hb : ED X b wb) : EDT X (.Compare a [.Eq] [b] pos) (dTest (dOp rdEqD wa wb)) := et_cmp (op_eqP hu) sr_eqD ha hb (nomark _)
theorem et_neD (hu : X.A.units + 64 < cLine) (ha : ED X a wa) (hb : ED X b wb) : EDT X (.Compare a [.NotEq] [b] pos) (dTest (dOp rdNeD wa wb)) := et_cmp (op_neP hu) sr_neD ha hb (nomark _)
theorem ed_eqD (hu : X.A.units + 64 < cLine) (ha : ED X a wa) (hb : ED X b wb) : ED X (.Compare a [.Eq] [b] pos) (dOp rdEqD wa wb) := ed_cmp (op_eqP hu) sr_eqD ha hb (nomark _)
theorem ed_neD (hu : X.A.units + 64 < cLine) (ha : ED X a wa) (hb : ED X b wb) : ED X (.Compare a [.NotEq] [b] pos) (dOp rdNeD wa wb) := ed_cmp (op_neP hu) sr_neD ha hb (nomark _)
theorem hu64 {k : Nat} (hr : RoomG k X.A) : X.A.units + 64 < cLine := by
  have h := hr.r.un
  omega
end
end Dm

set_option Elab.async false
set_option linter.all false
set_option maxRecDepth 100000
set_option maxHeartbeats 4000000
/-! The data machine: dict comprehensions, zip, enumerate, slices of tuples, sorted, list(range), pop(), extend, sums of lists and texts, keywords. -/
namespace Dm
open PySem PySem.Spec PyProof.Rows L2
/-! ### dict comprehensions -/
def dDc (di : DS → Sto → (Wk → Sto → Prop) → Prop) (g : DG) (wt : DT) (wk wv : DE) (vs : List Nat) : DE := fun δ O S => di δ O fun w O1 => ∃ (n : Nat) (Pv : Nat → Sto → Prop), Pv 0 (O1 ++ [.dct []]) ∧
  ∀ i O, Pv i O → i ≤ n ∧ w.ok O ∧ (match w.at_ i O with
    | none => S (.cell O1.length) O
    | some z => i < n ∧ g z (wipeD δ vs) O fun δ2 O2 => wt δ2 O2 fun b O3 => if b = true then wk δ2 O3 fun y O4 => wv δ2 O4 fun u O5 => ∃ kvs key, keyW y = some key ∧ O5[O1.length]? = some (.dct kvs) ∧ kvs.length < sizeLine ∧ Pv (i + 1) (O5.set O1.length (.dct (putW kvs key u))) else Pv (i + 1) O3)
theorem dc_sound {K : PySem.W.Frag} {wi : TI} {di : DS → Sto → (Wk → Sto → Prop) → Prop} {g : TG} {gd : DG} {tt : TT} {wt : DT} {tk tv : TE} {wk wv : DE} {vs : List Nat} (s0 : SI K wi di) (s1 : SGc K g gd vs) (s2 : STt K tt wt) (s3 : SE K tk wk) (s4 : SE K tv wv) : SE K (tDc wi g tt tk tv vs) (dDc di gd wt wk wv vs) := by
  intro F H θ O σ δ S j s q Q k
  refine s0 F H θ O σ δ _ j s q _ fun J w F1 H1 θ1 O1 g1 j1 q1 turn D hD => ?_
  obtain ⟨n, Pv, h0, hq⟩ := q1
  have gp : Gr F1 θ1 F1 (θ1 ++ [D]) := Gr.push
  have hk0 : (θ1 ++ [D])[O1.length]? = some D := by
    rw [← j1.len]
    simp
  refine ⟨fun i m H' => m = n - i ∧ ∃ F' θ' O', Gr F1 (θ1 ++ [D]) F' θ' ∧ Jn K F' H' θ' O' ∧ Pv i O', ⟨n, by omega, F1, _, _, Gr.refl, j1.newC (c := .dct []) hD ⟨j1.freeF hD, [], upd_same, .nil⟩, h0⟩, ?_⟩
  rintro i m H2 ⟨rfl, F2, θ2, O2, g2, j2, pv⟩
  obtain ⟨hin, hok, hm⟩ := hq i O2 pv
  have gA : Gr F1 θ1 F2 θ2 := gp.trans g2
  rcases turn i F2 H2 θ2 O2 gA j2 hok with ⟨e, st⟩ | ⟨z, e, go, yl⟩
  · rw [e] at hm
    exact .inl ⟨st, k (.ref D) _ F2 H2 θ2 O2 (g1.trans gA) j2 (.cell (g2.at hk0)) hm⟩
  · rw [e] at hm
    obtain ⟨hlt, hm⟩ := hm
    refine .inr ⟨go, fun H' => ∃ F' θ' O', Gr F1 (θ1 ++ [D]) F' θ' ∧ Jn K F' H' θ' O' ∧ Pv (i + 1) O', fun H' h => ⟨n - (i + 1), by omega, rfl, h⟩, fun x H3 hy => ?_⟩
    obtain ⟨F3, θ3, g3, j3, r3⟩ := yl x H3 hy
    have s3' := ((s.mono (g1.trans (gA.trans g3))).wipe vs)
    refine s1 F3 H3 θ3 O2 _ _ x z _ j3 s3' r3 hm _ fun F4 H4 θ4 O4 σ4 δ4 g4 j4 q4' e4 q4 => ⟨e4.trans (wipe_wipe σ vs), ?_⟩
    refine s2 F4 H4 θ4 O4 σ4 δ4 _ j4 q4' q4 _ fun b F5 H5 θ5 O5 g5 j5 q5 => ?_
    have g25 : Gr F1 (θ1 ++ [D]) F5 θ5 := ((g2.trans g3).trans g4).trans g5
    cases b with
    | false => exact ⟨F5, θ5, O5, g25, j5, q5⟩
    | true =>
      refine s3 F5 H5 θ5 O5 σ4 δ4 _ j5 (q4'.mono g5) q5 _ fun y wy F6 H6 θ6 O6 g6 j6 r6 q6 => ?_
      refine s4 F6 H6 θ6 O6 σ4 δ4 _ j6 (q4'.mono (g5.trans g6)) q6 _ fun zz wz F7 H7 θ7 O7 g7 j7 r7 q7 => ?_
      obtain ⟨kvs, key, hk, ha, hz, pv7⟩ := q7
      have g27 := (g25.trans g6).trans g7
      have hD7 : θ7[O1.length]? = some D := g27.at hk0
      obtain ⟨f7, us, hu, ru⟩ := j7.dct hD7 ha
      exact ⟨us, key, key_rel r6 hk, hu, by rw [kv_len ru]; exact hz, F7, θ7, _, g27, j7.putD hD7 f7 (put_rel key r7 ru), pv7⟩
section
variable {X : Cx} {elt tg iter : Expr} {ifs : List Expr} {scope : Scope} {own : List (Str × Nat)} {pos : Pos} {di : DS → Sto → (Wk → Sto → Prop) → Prop} {gd : DG} {wt : DT} {wk wv : DE}
theorem ed_dc {kx vx : Expr} (hc : X.calm = true) (hN : X.N.Nodup) (hi : EDI X tg iter di) (ok : BlkOk X.N X.env.scope scope own) (hg : ∀ s H C cl fp, EDGc (Blk X scope s H C cl fp) (own.map (·.2)) tg gd) (ht : ∀ s H C cl fp, EDTs (Blk X scope s H C cl fp) ifs wt)
    (hk : ∀ s H C cl fp, ED (Blk X scope s H C cl fp) kx wk) (hv : ∀ s H C cl fp, ED (Blk X scope s H C cl fp) vx wv) (hs : ∀ x, foldedSetIterable iter X.env x = pure x := by intro _; rfl) : ED X (.DictComp kx vx [⟨tg, iter, ifs, 0⟩] scope pos) (dDc di gd wt wk wv (own.map (·.2))) := by
  obtain ⟨t0, p0, s0⟩ := hi.ex
  obtain ⟨t1, p1, s1⟩ := uni_g hg
  obtain ⟨t2, p2, s2⟩ := uni_t ht
  obtain ⟨t3, p3, s3⟩ := uni_e hk
  obtain ⟨t4, p4, s4⟩ := uni_e hv
  exact ⟨_, pe_dc hc hN p0 ok p1 p2 p3 p4 hs, dc_sound s0 s1 s2 s3 s4⟩
end
/-! ### zip, enumerate, texts -/
def LstQ (O : Sto) (y : W) (xs : List W) : Prop := ∃ k, y = .cell k ∧ LstC O k xs
/-- of the lists in two cells; of two tuples -/
def wkZL (k l : Nat) : Wk := ⟨fun i O => match (wkL k).at_ i O, (wkL l).at_ i O with
  | some x, some y => some (.tup [x, y])
  | _, _ => none, fun O => (wkL k).ok O ∧ (wkL l).ok O⟩
def wkZT (xs ys : List W) : Wk := ⟨fun i _ => match xs[i]?, ys[i]? with
  | some x, some y => some (.tup [x, y])
  | _, _ => none, fun _ => True⟩
def wkE (k : Nat) : Wk := ⟨fun i O => ((wkL k).at_ i O).map fun x => .tup [.int i, x], (wkL k).ok⟩
def wkS (x : Str) : Wk := ⟨fun i _ => x.cps[i]?.map fun c => .str ⟨#[c]⟩, fun _ => True⟩
def diZip (wa : DA) : DS → Sto → (Wk → Sto → Prop) → Prop := fun δ O S => wa δ O fun ws O1 => (∃ xs ys, ws = [.tup xs, .tup ys] ∧ S (wkZT xs ys) O1) ∨ ∃ k l xs ys, ws = [.cell k, .cell l] ∧ LstC O1 k xs ∧ LstC O1 l ys ∧ S (wkZL k l) O1
def diEnum (wa : DA) : DS → Sto → (Wk → Sto → Prop) → Prop := fun δ O S => wa δ O fun ws O1 => ∃ k xs, ws = [.cell k] ∧ LstC O1 k xs ∧ S (wkE k) O1
def diS (we : DE) : DS → Sto → (Wk → Sto → Prop) → Prop := fun δ O S => we δ O fun w O1 => ∃ x, w = .str x ∧ S (wkS x) O1
theorem ei_str {X : Cx} {tg e : Expr} {we : DE} (h : ED X e we) : EDI X tg e (diS we) := by
  obtain ⟨t0, p0, s0⟩ := h.ex
  refine ⟨_, pi_str p0, fun F H θ O σ δ S j s q R k => ?_⟩
  refine s0 F H θ O σ δ _ j s q _ fun v w F1 H1 θ1 O1 g1 j1 r1 q1 => ?_
  obtain ⟨x, rfl, q1⟩ := q1
  refine ⟨x, r1.str_inv, k _ _ F1 H1 θ1 O1 g1 j1 q1 fun i F2 H2 θ2 O2 g2 j2 _ => ?_⟩
  show (x.cps[i]?.map _ = none ∧ _) ∨ ∃ z, x.cps[i]?.map _ = some z ∧ _
  cases h : x.cps[i]? with
  | none => exact .inl ⟨rfl, (show x.cps.size ≤ i by simpa using h)⟩
  | some c =>
    refine .inr ⟨_, rfl, (Array.getElem?_eq_some_iff.mp h).1, fun v H3 hy => ?_⟩
    obtain ⟨rfl, c', e', rfl⟩ := hy
    rw [h] at e'
    cases e'
    exact ⟨F2, θ2, Gr.refl, j2, .str _⟩
theorem ei_enum {X : Cx} {e : Expr} {wa : DA} {p pos tpos : Pos} {elts : List Expr} {kk : Nat} (hg : Gl X "enumerate") (hm : X.mg "enumerate" = none) (ha : EDA X [e] wa) (hs : starEach [e] X.env = [(false, eval e X.env)] := by rfl) :
    EDI X (.Tuple elts kk tpos) (.Call (.Name "enumerate" p) [e] [] pos) (diEnum wa) := by
  obtain ⟨t0, p0, s0⟩ := ha.ex
  refine ⟨_, pi_enum hg hm p0 hs, fun F H θ O σ δ S j s q R k => ?_⟩
  refine s0 F H θ O σ δ _ j s q _ fun vs ws F1 H1 θ1 O1 g1 j1 r1 q1 => ?_
  obtain ⟨c, xs, rfl, hc, q1⟩ := q1
  obtain ⟨v, rfl, rv⟩ := r1.one_inv
  obtain ⟨a, rfl, ha⟩ := rv.cell_inv
  obtain ⟨us, hu, ru⟩ := j1.lstC ha hc
  refine ⟨a, us, rfl, hu, k _ _ F1 H1 θ1 O1 g1 j1 q1 fun i F2 H2 θ2 O2 g2 j2 ok => ?_⟩
  obtain ⟨zs, hz⟩ := ok
  obtain ⟨us2, hu2, ru2⟩ := j2.lstC (g2.at ha) hz
  show (((wkL c).at_ i O2).map _ = none ∧ _) ∨ ∃ z, ((wkL c).at_ i O2).map _ = some z ∧ _
  rw [wkL_at hz]
  cases h : zs[i]? with
  | none => exact .inl ⟨rfl, us2, hu2, by rw [ru2.length]; exact List.getElem?_eq_none_iff.mp h⟩
  | some z =>
    obtain ⟨v, ev, rv⟩ := ru2.get h
    refine .inr ⟨_, rfl, ⟨us2, v, hu2, ev⟩, fun x H3 hy => ?_⟩
    obtain ⟨T, y, rfl, hT, rfl, hx⟩ := hy
    have e2 := (hx us2 hu2).symm.trans ev
    cases e2
    have g3 : Gr F2 θ2 (L2.upd F2 T (.tup [.int (i : Nat), v])) θ2 := Gr.upd (j2.freeF hT)
    exact ⟨_, _, g3, j2.newT hT, .tup (.inl (.inl upd_same)) (.cons (.int _) (.cons (rv.mono g3) .nil))⟩
theorem ei_zip {X : Cx} {e e2 : Expr} {wa : DA} {p pos tpos : Pos} {elts : List Expr} {kk : Nat} (hg : Gl X "zip") (hm : X.mg "zip" = none) (ha : EDA X [e, e2] wa)
    (hs : starEach [e, e2] X.env = (false, eval e X.env) :: starEach [e2] X.env := by rfl) (hpl : (backTo pos (starEach [e2] X.env)).any (·.1) = false := by rfl) : EDI X (.Tuple elts kk tpos) (.Call (.Name "zip" p) [e, e2] [] pos) (diZip wa) := by
  obtain ⟨t0, p0, s0⟩ := ha.ex
  refine ⟨_, RZ.pi_zipA hg hm p0 hs hpl, fun F H θ O σ δ S j s q R k => ?_⟩
  refine s0 F H θ O σ δ _ j s q _ fun vs ws F1 H1 θ1 O1 g1 j1 r1 q1 => ?_
  rcases q1 with ⟨xs, ys, rfl, q1⟩ | ⟨c, d, xs, ys, rfl, hc, hd, q1⟩
  · obtain ⟨v, u, rfl, rv, ru⟩ := r1.two_inv
    obtain ⟨a, vs, rfl, hq, rr⟩ := rv.tup_inv
    obtain ⟨b, us, rfl, hq', rr'⟩ := ru.tup_inv
    refine ⟨a, b, vs, us, rfl, .inr ⟨sqT_sub j1 hq, sqT_sub j1 hq', k _ _ F1 H1 θ1 O1 g1 j1 q1 fun i F2 H2 θ2 O2 g2 j2 _ => ?_⟩⟩
    have e1 : SqT X.K H2 a vs := sqT_sub j2 (sqT_fz g2.fz hq)
    have e2 : SqT X.K H2 b us := sqT_sub j2 (sqT_fz g2.fz hq')
    show ((match xs[i]?, ys[i]? with | some x, some y => some (W.tup [x, y]) | _, _ => none) = none ∧ _) ∨ ∃ z, (match xs[i]?, ys[i]? with | some x, some y => some (W.tup [x, y]) | _, _ => none) = some z ∧ _
    cases h1 : xs[i]? with
    | none => exact .inl ⟨rfl, vs, us, e1, e2, .inl (by rw [rr.length]; exact List.getElem?_eq_none_iff.mp h1)⟩
    | some x =>
      cases h2 : ys[i]? with
      | none => exact .inl ⟨rfl, vs, us, e1, e2, .inr (by rw [rr'.length]; exact List.getElem?_eq_none_iff.mp h2)⟩
      | some y =>
        obtain ⟨v, ev, rv⟩ := (rr.mono g2).get h1
        obtain ⟨u, eu, ru⟩ := (rr'.mono g2).get h2
        refine .inr ⟨_, rfl, ⟨vs, us, v, u, e1, e2, ev, eu⟩, fun z H3 hy => ?_⟩
        obtain ⟨T, y1, y2, rfl, hT, rfl, f1, f2⟩ := hy
        have q1 := (f1 _ e1).symm.trans ev
        have q2 := (f2 _ e2).symm.trans eu
        cases q1
        cases q2
        have g3 : Gr F2 θ2 (L2.upd F2 T (.tup [v, u])) θ2 := Gr.upd (j2.freeF hT)
        exact ⟨_, _, g3, j2.newT hT, .tup (.inl (.inl upd_same)) (.cons (rv.mono g3) (.cons (ru.mono g3) .nil))⟩
  · obtain ⟨v, u, rfl, rv, ru⟩ := r1.two_inv
    obtain ⟨a, rfl, ha⟩ := rv.cell_inv
    obtain ⟨b, rfl, hb⟩ := ru.cell_inv
    obtain ⟨vs, hv, rr⟩ := j1.lstC ha hc
    obtain ⟨us, hu, rr'⟩ := j1.lstC hb hd
    refine ⟨a, b, vs, us, rfl, .inl ⟨hv, hu, k _ _ F1 H1 θ1 O1 g1 j1 q1 fun i F2 H2 θ2 O2 g2 j2 ok => ?_⟩⟩
    obtain ⟨⟨zs, hz⟩, ⟨zs', hz'⟩⟩ := ok
    obtain ⟨vs2, e1, rr2⟩ := j2.lstC (g2.at ha) hz
    obtain ⟨us2, e2, rr2'⟩ := j2.lstC (g2.at hb) hz'
    show ((match (wkL c).at_ i O2, (wkL d).at_ i O2 with | some x, some y => some (W.tup [x, y]) | _, _ => none) = none ∧ _) ∨ ∃ z, (match (wkL c).at_ i O2, (wkL d).at_ i O2 with | some x, some y => some (W.tup [x, y]) | _, _ => none) = some z ∧ _
    rw [wkL_at hz, wkL_at hz']
    cases h1 : zs[i]? with
    | none => exact .inl ⟨rfl, vs2, us2, e1, e2, .inl (by rw [rr2.length]; exact List.getElem?_eq_none_iff.mp h1)⟩
    | some x =>
      cases h2 : zs'[i]? with
      | none => exact .inl ⟨rfl, vs2, us2, e1, e2, .inr (by rw [rr2'.length]; exact List.getElem?_eq_none_iff.mp h2)⟩
      | some y =>
        obtain ⟨v, ev, rv⟩ := rr2.get h1
        obtain ⟨u, eu, ru⟩ := rr2'.get h2
        refine .inr ⟨_, rfl, ⟨vs2, us2, v, u, e1, e2, ev, eu⟩, fun z H3 hy => ?_⟩
        obtain ⟨T, y1, y2, rfl, hT, rfl, f1, f2⟩ := hy
        have q1 := (f1 _ e1).symm.trans ev
        have q2 := (f2 _ e2).symm.trans eu
        cases q1
        cases q2
        have g3 : Gr F2 θ2 (L2.upd F2 T (.tup [v, u])) θ2 := Gr.upd (j2.freeF hT)
        exact ⟨_, _, g3, j2.newT hT, .tup (.inl (.inl upd_same)) (.cons (rv.mono g3) (.cons (ru.mono g3) .nil))⟩

/-! ### slices of tuples, sums, sorted, list(range(..)) -/
section
variable {X : Cx} {a b c e : Expr} {es : List Expr} {wa wb wc we : DE} {wr : DA} {pos : Pos}
def dSlT (we : DE) (wl wh : DS → Sto → (Option Int → Sto → Prop) → Prop) : DE := fun δ O S => we δ O fun w O1 => wl δ O1 fun lo O2 => wh δ O2 fun hi O3 => ∃ ws, w = .tup ws ∧ ¬ (HT.sIx ws.length 0 lo = 0 ∧ HT.sIx ws.length ws.length hi = ws.length) ∧ S (.tup (cutW ws lo hi)) O3
theorem ed_slT {lo hi : Option Expr} {wl wh : DS → Sto → (Option Int → Sto → Prop) → Prop} {p2 : Pos} (he : ED X e we) (hl : EDO X lo wl) (hh : EDO X hi wh) : ED X (.Subscript e (.Slice lo hi none p2) pos) (dSlT we wl wh) := by
  obtain ⟨t0, p0, s0⟩ := he.ex
  obtain ⟨t1, p1, s1⟩ := hl.ex
  obtain ⟨t2, p2, s2⟩ := hh.ex
  refine ⟨_, pe_slice sl_tup p0 p1 p2, fun F H θ O σ δ S j s q Q k => ?_⟩
  refine s0 F H θ O σ δ _ j s q _ fun v w F1 H1 θ1 O1 g1 j1 r1 q1 => ?_
  refine s1 F1 H1 θ1 O1 σ δ _ j1 (s.mono g1) q1 _ fun lo F2 H2 θ2 O2 g2 j2 q2 => ?_
  refine s2 F2 H2 θ2 O2 σ δ _ j2 (s.mono (g1.trans g2)) q2 _ fun hi F3 H3 θ3 O3 g3 j3 q3 => ?_
  obtain ⟨ws, rfl, hn, q3⟩ := q3
  obtain ⟨a, vs, rfl, hq, rr⟩ := r1.tup_inv
  have g23 := g2.trans g3
  refine ⟨a, vs, rfl, sqT_sub j3 (sqT_fz g23.fz hq), by rw [rr.length]; exact hn, fun p hp => ?_⟩
  have g4 : Gr F3 θ3 (L2.upd F3 p (.tup (cutV vs lo hi))) θ3 := Gr.upd (j3.freeF hp)
  exact k _ _ _ _ _ _ ((g1.trans g23).trans g4) (j3.newT hp) (.tup (.inl (.inl upd_same)) ((cut_rel (rr.mono g23) lo hi).mono g4)) q3
def rdSorted : RCD := fun ws O S => ∃ (k : Nat) (ns : List Int), ws = [.cell k] ∧ LstC O k (ns.map W.int) ∧ ∀ ns' : List Int, ns'.Perm ns → ns'.Pairwise (· ≤ ·) → S (.cell O.length) (O ++ [.lst (ns'.map W.int)])
theorem src_sorted {K : PySem.W.Frag} : SRC K (rSortedI K) rdSorted := by
  intro F H θ O vs ws S j r q Q k
  obtain ⟨c, ns, rfl, hc, q⟩ := q
  obtain ⟨v, rfl, rv⟩ := r.one_inv
  obtain ⟨a, rfl, ha⟩ := rv.cell_inv
  obtain ⟨xs, hl, rr⟩ := j.lstC ha hc
  refine ⟨a, ns, rfl, by rw [← ints_rel rr]; exact hl, fun ns' p h1 h2 hp => ?_⟩
  exact k _ _ _ _ _ _ Gr.push (j.newL hp RWs.ints) (.cell (by rw [← j.len]; simp)) (q ns' h1 h2)
def dListR (wa : DA) : DE := fun δ O S => wa δ O fun ws O1 => ∃ n : Int, ws = [.int n] ∧ 0 ≤ n ∧ n < 100000 ∧ S (.cell O1.length) (O1 ++ [.lst ((List.range n.toNat).map fun i => W.int (i : Nat))])
def rdCatL : R2D := fun x y O S => ∃ k l xs ys, x = .cell k ∧ y = .cell l ∧ O[k]? = some (.lst xs) ∧ O[l]? = some (.lst ys) ∧ xs.length + ys.length ≤ sizeLine ∧ S (.cell O.length) (O ++ [.lst (xs ++ ys)])
theorem sr_catL {K : PySem.W.Frag} : SR2 K rCat rdCatL := by
  intro F H θ O x y v u S j rx ry q Q k
  obtain ⟨c, d, xs, ys, rfl, rfl, hc, hd, hz, q⟩ := q
  obtain ⟨a, rfl, ha⟩ := rx.cell_inv
  obtain ⟨b, rfl, hb⟩ := ry.cell_inv
  obtain ⟨f, vs, hv, rr⟩ := j.lst ha hc
  obtain ⟨f', us, hu, rr'⟩ := j.lst hb hd
  refine ⟨a, b, vs, us, rfl, rfl, hv, hu, by rw [rr.length, rr'.length]; exact hz, fun p hp => ?_⟩
  exact k _ _ _ _ _ _ Gr.push (j.newL hp (rr.append rr')) (.cell (by rw [← j.len]; simp)) q
abbrev dCatL := dOp rdCatL
theorem ed_catL (ha : ED X a wa) (hb : ED X b wb) : ED X (.BinOp a .Add b pos) (dCatL wa wb) := ed_op op_cat sr_catL ha hb
def rdCatS : R2D := fun x y O S => ∃ i j, x = .str i ∧ y = .str j ∧ i.length + j.length ≤ sizeLine ∧ S (.str (i ++ j)) O
theorem sr_catS {K : PySem.W.Frag} : SR2 K (fun x y H Q => ∃ i j, x = .str i ∧ y = .str j ∧ i.length + j.length ≤ sizeLine ∧ Q (.str (i ++ j)) H) rdCatS := by
  intro F H θ O x y v u S j rx ry q Q k
  obtain ⟨i, l, rfl, rfl, hz, q⟩ := q
  exact ⟨i, l, rx.str_inv, ry.str_inv, hz, k _ _ F H θ O Gr.refl j (.str _) q⟩
abbrev dCatS := dOp rdCatS
theorem ed_catS (ha : ED X a wa) (hb : ED X b wb) : ED X (.BinOp a .Add b pos) (dCatS wa wb) := ed_op op_add_str sr_catS ha hb

/-! ### pop(), extend -/
def dBM0 (ok : W → Sto → Prop) (rd : RMD) (wo : DE) : DE := fun δ O S => wo δ O fun x O1 => ok x O1 ∧ rd x [] O1 S
theorem ed_bm0 {name : Str} {apos cpos : Pos} {T id : String} {r : V → List V → Hp → VK → Prop} {rd : RMD} {ok : W → Sto → Prop} (pa : PlainAttrs T) (slot : Slot T name id) (hty : typeOf (.builtin id) = pure (.type "method_descriptor")) (hm : MtR X id r) (hs : STy X.K T ok) (hr : SRM X.K T r rd) (ho : ED X a wa)
    (hbase : attributeBase a name X.env (eval a X.env) = eval a X.env := by rfl) (hline : (apos.endLine == cpos.line) = true := by rfl) : ED X (.Call (.Attribute a name apos) [] [] cpos) (dBM0 ok rd wa) := by
  obtain ⟨t0, p0, s0⟩ := ho.ex
  refine ⟨_, pe_bm0 pa slot hty hm p0 hbase hline, fun F H θ O σ δ S j s q Q k => ?_⟩
  refine s0 F H θ O σ δ _ j s q _ fun v x F1 H1 θ1 O1 g1 j1 r1 q1 => ⟨hs F1 H1 θ1 O1 v x j1 r1 q1.1, ?_⟩
  exact hr F1 H1 θ1 O1 v x [] [] S j1 r1 .nil q1.2 Q fun z w F3 H3 θ3 O3 g3 => k z w F3 H3 θ3 O3 (g1.trans g3)
theorem RWs.dropLast {K : PySem.W.Frag} {F : Hp} {θ : List Addr} : ∀ {vs : List V} {ws : List W}, RWs K F θ vs ws → RWs K F θ vs.dropLast ws.dropLast
  | _, _, .nil => .nil
  | _, _, .cons r .nil => .nil
  | _, _, .cons r (.cons q t) => .cons r (RWs.dropLast (.cons q t))
def rdPop : RMD := fun x ws O S => ∃ k us w, x = .cell k ∧ ws = [] ∧ O[k]? = some (.lst us) ∧ us[us.length - 1]? = some w ∧ S w (O.set k (.lst us.dropLast))
theorem srm_pop {K : PySem.W.Frag} : SRM K "list" rPop rdPop := by
  intro F H θ O v x vs ws S j r rs q Q k
  obtain ⟨c, us, w, rfl, rfl, hc, hw, q⟩ := q
  obtain ⟨a, rfl, ha⟩ := r.cell_inv
  cases rs
  obtain ⟨f, xs, hx, rr⟩ := j.lst ha hc
  obtain ⟨z, hz, rz⟩ := rr.get hw
  exact ⟨a, xs, z, rfl, rfl, hx, by rw [rr.length]; exact hz, k _ _ F _ θ _ Gr.refl (j.putL ha f rr.dropLast) rz q⟩
def rdExtend : RMD := fun x ws O S => ∃ k l us zs, x = .cell k ∧ ws = [.cell l] ∧ O[k]? = some (.lst us) ∧ O[l]? = some (.lst zs) ∧ us.length + zs.length ≤ sizeLine ∧ S .non (O.set k (.lst (us ++ zs)))
theorem srm_extend {K : PySem.W.Frag} : SRM K "list" rExtend rdExtend := by
  intro F H θ O v x vs ws S j r rs q Q k
  obtain ⟨c, d, us, zs, rfl, rfl, hc, hd, hz, q⟩ := q
  obtain ⟨a, rfl, ha⟩ := r.cell_inv
  obtain ⟨y, rfl, ry⟩ := rs.one_inv
  obtain ⟨b, rfl, hb⟩ := ry.cell_inv
  obtain ⟨f, xs, hx, rr⟩ := j.lst ha hc
  obtain ⟨f', ys, hy, rr'⟩ := j.lst hb hd
  exact ⟨a, b, xs, ys, rfl, rfl, hx, hy, by rw [rr.length, rr'.length]; exact hz, k _ _ F _ θ _ Gr.refl (j.putL ha f (rr.append rr')) .non q⟩
theorem ed_listR {p p2 q : Pos} (hc : X.calm = true) (hg : Gl X "list") (hm : X.mg "list" = none) (hg2 : Gl X "range") (hm2 : X.mg "range" = none) (ha : ED X a wa) (na : starEach [a] X.env = (false, eval a X.env) :: starEach [] X.env := by rfl)
    (nr : starEach [.Call (.Name "range" p2) [a] [] q] X.env = (false, eval (.Call (.Name "range" p2) [a] [] q) X.env) :: starEach [] X.env := by rfl) : ED X (.Call (.Name "list" p) [.Call (.Name "range" p2) [a] [] q] [] pos) (dListR (dCons wa dNil)) := by
  obtain ⟨t0, p0, s0⟩ := ha.ex
  refine ⟨_, pe_listRg hc hg hm (prg_1 hg2 hm2 p0 na) nr, fun F H θ O σ δ S j s q Q k => ?_⟩
  refine s0 F H θ O σ δ _ j s q _ fun v w F1 H1 θ1 O1 g1 j1 r1 q1 => ?_
  obtain ⟨n, e, h0, h1, q1⟩ := q1
  have e' : w = .int n := List.head_eq_of_cons_eq e
  subst e'
  refine ⟨n, r1.int_inv, ⟨by omega, by omega, by omega, by omega, by omega⟩, fun p hp => ?_⟩
  have ev : rgV 0 n = (List.range n.toNat).map fun i => V.int (i : Nat) := by
    unfold rgV
    rw [Int.sub_zero]
    refine List.map_congr_left fun i _ => ?_
    rw [Int.zero_add]
  have rr : RWs X.K F1 θ1 (rgV 0 n) ((List.range n.toNat).map fun i => W.int (i : Nat)) := by
    rw [ev]
    induction List.range n.toNat with
    | nil => exact .nil
    | cons i r ih => exact .cons (.int _) ih
  exact k _ _ _ _ _ _ (g1.trans Gr.push) (j1.newL hp rr) (.cell (by rw [← j1.len]; simp)) q1
end
end Dm

set_option Elab.async false
set_option linter.all false
set_option maxRecDepth 100000
set_option maxHeartbeats 4000000
/-! The data machine: is None, tuples of the module, len(set(ints)). -/
namespace Dm
open PySem PySem.Spec PyProof.Rows L2
def isN : W → Bool
  | .non => true
  | _ => false
def dIsN (we : DE) : DE := fun δ O S => we δ O fun x O1 => S (.bl (isN x)) O1
/-- a name of the module that is a tuple -/
def GTup (K : PySem.W.Frag) (mg : Str → Option Value) (x : Str) (ws : List W) : Prop := ∃ (a : Addr) (vs : List V), mg x = some (.ref a) ∧ (∀ F, SqT K F a vs) ∧ ∀ F θ, RWs K F θ vs ws
section
variable {X : Cx} {a e : Expr} {wa we : DE} {pos : Pos}
theorem isN_rel {K : PySem.W.Frag} {F : Hp} {θ : List Addr} {v : V} {x : W} (r : RW K F θ v x) : decide (v = .non) = isN x := by cases r <;> rfl
theorem SE.isN {K : PySem.W.Frag} {ta : TE} (s : SE K ta wa) : SE K (tIsN ta) (dIsN wa) := fun F H θ O σ δ S j s' q Q k => by
  refine s F H θ O σ δ _ j s' q _ fun v x F1 H1 θ1 O1 g1 j1 r1 q1 => ?_
  rw [isN_rel r1]
  exact k _ _ F1 H1 θ1 O1 g1 j1 (.bl _) q1
theorem ed_isN {j pos'} (h : ED X a wa) : ED X (.Compare a [.Is] [.Constant .none j pos'] pos) (dIsN wa) := by
  obtain ⟨t, p, s⟩ := h.ex
  exact ⟨_, pe_cmp (pc_isN p), s.isN⟩
theorem et_isN {j pos'} (h : ED X a wa) : EDT X (.Compare a [.Is] [.Constant .none j pos'] pos) (dTest (dIsN wa)) := by
  obtain ⟨t, p, s⟩ := h.ex
  exact ⟨_, pt_cmp (pc_isN p), .test s.isN⟩
theorem ed_gtup {x : Str} {ws : List W} (hg : Gl X x) (g : GTup X.K X.mg x ws) (hd : (x == ("__debug__" : Str)) = false := by decide) : ED X (.Name x pos) (dC (.tup ws)) := by
  obtain ⟨a, vs, hm, hq, hr⟩ := g
  exact ⟨_, pe_glob (v := .ref a) hg hm rfl hd, SE.pure fun F θ => .tup (hq F) (hr F θ)⟩
/-- how many unlike ints -/
def nI (ns : List Int) : Nat := (PyProof.Rows.firstMet (fun i => ns.getD i 0) ns.length).length
def dLenSetI (wa : DE) : DE := fun δ O S => wa δ O fun x O1 => ∃ (k : Nat) (ns : List Int), x = .cell k ∧ LstC O1 k (ns.map W.int) ∧ ns.length ≤ 4000 ∧ S (.int (nI ns : Nat)) O1
def tLenI (K : PySem.W.Frag) (ta : TE) : TE := fun σ H Q => ta σ H fun x H1 => ∃ (l : Addr) (ns : List Int), x = .ref l ∧ SqL K H1 l (ns.map V.int) ∧ ns.length ≤ 4000 ∧ Q (.int (nI ns : Nat)) H1
theorem firstMet_le (f : Nat → Int) : ∀ n, (PyProof.Rows.firstMet f n).length ≤ n
  | 0 => Nat.le_refl _
  | n + 1 => by
    rw [PyProof.Rows.firstMet_succ]; unfold PyProof.Rows.step_dedup
    have h := firstMet_le f n
    split
    · omega
    · rw [List.length_append]
      show _ + 1 ≤ _
      omega
theorem firstMet_mem (f : Nat → Int) (x : Int) : ∀ n, x ∈ PyProof.Rows.firstMet f n ↔ ∃ i, i < n ∧ f i = x
  | 0 => ⟨(fun h => nomatch h), fun ⟨i, h, _⟩ => absurd h (Nat.not_lt_zero i)⟩
  | n + 1 => by
    rw [PyProof.Rows.firstMet_succ]; unfold PyProof.Rows.step_dedup
    have ih := firstMet_mem f x n
    split
    · rename_i h
      rw [ih]
      constructor
      · rintro ⟨i, hi, e⟩
        exact ⟨i, by omega, e⟩
      · rintro ⟨i, hi, e⟩
        by_cases q : i < n
        · exact ⟨i, q, e⟩
        · have : i = n := by omega
          subst this
          obtain ⟨y, hy, ey⟩ := List.any_eq_true.mp h
          have ey2 : y = f i := eq_of_beq ey
          rw [ey2, e] at hy
          exact ih.mp hy
    · rw [List.mem_append, ih, List.mem_singleton]
      constructor
      · rintro (⟨i, hi, e⟩ | e)
        · exact ⟨i, by omega, e⟩
        · exact ⟨n, Nat.lt_succ_self n, e.symm⟩
      · rintro ⟨i, hi, e⟩
        by_cases q : i < n
        · exact .inl ⟨i, q, e⟩
        · have : i = n := by omega
          subst this
          exact .inr e.symm
theorem nI_all (ns : List Int) : decide (((nI ns : Nat) : Int) = ns.length) = decide ns.Nodup := by
  have key : ∀ n, n ≤ ns.length → ((PyProof.Rows.firstMet (fun i => ns.getD i 0) n).length = n ↔ (ns.take n).Nodup) := by
    intro n
    induction n with
    | zero => intro _; exact ⟨fun _ => by simp, fun _ => rfl⟩
    | succ n ih =>
      intro hn
      have hlt : n < ns.length := hn
      have ih := ih (by omega)
      have hle := firstMet_le (fun i => ns.getD i 0) n
      have ed : ns.getD n 0 = ns[n] := by simp [List.getD, hlt]
      rw [PyProof.Rows.firstMet_succ, List.take_succ, List.getElem?_eq_getElem hlt]; unfold PyProof.Rows.step_dedup
      show _ ↔ (ns.take n ++ [ns[n]]).Nodup
      have hmem : ns.getD n 0 ∈ PyProof.Rows.firstMet (fun i => ns.getD i 0) n ↔ ns[n] ∈ ns.take n := by
        rw [firstMet_mem, ed]
        constructor
        · rintro ⟨i, hi, e⟩
          have : ns.getD i 0 = ns[i] := by simp [List.getD, show i < ns.length by omega]
          rw [← e, this]
          exact List.mem_take_iff_getElem.mpr ⟨i, by omega, rfl⟩
        · intro h
          obtain ⟨i, hi, e⟩ := List.mem_take_iff_getElem.mp h
          refine ⟨i, by omega, ?_⟩
          rw [← e]
          simp [List.getD, show i < ns.length by omega]
      rw [List.nodup_append]
      split
      · rename_i h
        obtain ⟨y, hy, ey⟩ := List.any_eq_true.mp h
        have ey2 : y = ns.getD n 0 := eq_of_beq ey
        rw [ey2] at hy
        have hin := hmem.mp hy
        constructor
        · intro q
          omega
        · rintro ⟨_, _, q⟩
          exact absurd rfl (q _ hin _ List.mem_cons_self)
      · rename_i h
        have hno : ns[n] ∉ ns.take n := fun z => h (List.any_eq_true.mpr ⟨_, hmem.mpr z, by simp⟩)
        rw [List.length_append]
        constructor
        · intro q
          have q2 : (PyProof.Rows.firstMet (fun i => ns.getD i 0) n).length = n := by
            have : ([ns.getD n 0] : List Int).length = 1 := rfl
            omega
          refine ⟨ih.mp q2, by simp, fun x hx y hy e => ?_⟩
          rw [List.mem_singleton] at hy
          subst hy
          subst e
          exact hno hx
        · rintro ⟨q, _, _⟩
          rw [ih.mpr q]
          rfl
  have k2 := key ns.length (Nat.le_refl _)
  rw [List.take_length] at k2
  unfold nI
  refine decide_eq_decide.mpr ?_
  rw [← k2]
  omega
theorem pe_lenI {a : Expr} {ta : TE} {p p2 q pos : Pos} (hc : X.calm = true) (hg : Gl X "len") (hm : X.mg "len" = none) (hg2 : Gl X "set") (hm2 : X.mg "set" = none) (ha : PE X a ta)
    (na : starEach [a] X.env = (false, eval a X.env) :: starEach [] X.env := by rfl) : PE X (.Call (.Name "len" p) [.Call (.Name "set" p2) [a] [] q] [] pos) (tLenI X.K ta) := by
  refine ⟨fun pins s σ H Q I h => Call_ (ld_blt I hg hm boot_len ?_)⟩
  refine PyProof.Rows.callWith_builtin1 (PyProof.Rows.args_cons (Call_ (ld_blt I hg2 hm2 boot_set ?_)) rfl) rfl rfl
  refine PyProof.Rows.callWith_type1 (PyProof.Rows.args_cons (thn (ha.run pins s σ H _ I h) fun v s1 ⟨x, H1, I1, r1, q1⟩ => PyProof.Rows.args_nil ?_) na) na rfl
  obtain ⟨l, ns, rfl, hq, hl, q1⟩ := q1
  cases r1
  obtain ⟨its, r, pl, hz⟩ := I1.list hq
  have en : its.toArray.size = ns.length := by rw [List.size_toArray, ← r.length, List.length_map]
  refine call_set_list (I1.ok.hd hc) pl.isList (by simpa using RZ.intsAre_vals r) (by rw [en]; unfold scanBound; omega) fun h' tk hS hk => PyProof.Rows.args_nil ?_
  rw [en] at hS
  obtain ⟨o, es, ep, t, ho, hex, hd, _, _, _, hf, hn⟩ := hS
  have I2 : Inv X pins σ H1 { s1 with heap := h', toks := tk } := I1.kept fun b o e => hk b o (Heap.lt_size e) e
  have hb := firstMet_le (fun i => ns.getD i 0) ns.length
  exact call_len_set ho hex hd hf (by rw [hn]; omega) ⟨.int (nI ns : Nat), H1, I2.tok _, ⟨_, by rw [hn]; rfl⟩, q1⟩
theorem ed_lenSetI {p p2 q pos : Pos} (hc : X.calm = true) (hg : Gl X "len") (hm : X.mg "len" = none) (hg2 : Gl X "set") (hm2 : X.mg "set" = none) (ha : ED X a wa)
    (na : starEach [a] X.env = (false, eval a X.env) :: starEach [] X.env := by rfl) : ED X (.Call (.Name "len" p) [.Call (.Name "set" p2) [a] [] q] [] pos) (dLenSetI wa) := by
  obtain ⟨t0, p0, s0⟩ := ha.ex
  refine ⟨_, pe_lenI hc hg hm hg2 hm2 p0 na, fun F H θ O σ δ S j s q Q k => ?_⟩
  refine s0 F H θ O σ δ _ j s q _ fun v x F1 H1 θ1 O1 g1 j1 r1 q1 => ?_
  obtain ⟨c, ns, rfl, hc', hl, q1⟩ := q1
  obtain ⟨p, rfl, hp⟩ := r1.cell_inv
  obtain ⟨xs, hx, rr⟩ := j1.lstC hp hc'
  exact ⟨p, ns, rfl, by rw [← ints_rel rr]; exact hx, hl, k _ _ F1 H1 θ1 O1 g1 j1 (.int _) q1⟩
/-- PARTS.get((kind, word)): the table's rows -/
def dParts (tab : List ((Str × Str) × List Str)) (wa : DA) : DE := fun δ O S => wa δ O fun ws O1 => ∃ k x, ws = [.str k, .str x] ∧ S (match tab.lookup (k, x) with
  | some ps => .tup (ps.map W.str)
  | none => .non) O1
end
end Dm

set_option Elab.async false
set_option linter.all false
set_option maxRecDepth 100000
set_option maxHeartbeats 4000000
set_option exponentiation.threshold 2000
/-! The draws of a law: the feed, a draw, one of some things. -/
namespace Dm
open PySem PySem.Spec PyProof.Rows L2

/-- all cells but k stand as they stood -/
structure Kp (k : Nat) (O O' : Sto) : Prop where
  len : O.length ≤ O'.length
  at_ : ∀ (i : Nat) (c : Cell), i ≠ k → O[i]? = some c → O'[i]? = some c
theorem Kp.refl {k : Nat} {O : Sto} : Kp k O O := ⟨Nat.le_refl _, fun _ _ _ h => h⟩
theorem Kp.trans {k : Nat} {O O1 O2 : Sto} (a : Kp k O O1) (b : Kp k O1 O2) : Kp k O O2 := ⟨Nat.le_trans a.len b.len, fun i c n h => b.at_ i c n (a.at_ i c n h)⟩
theorem Kp.set {k : Nat} {O : Sto} {c : Cell} : Kp k O (O.set k c) := ⟨by rw [List.length_set]; exact Nat.le_refl _, fun i d n h => by rw [List.getElem?_set_ne (Ne.symm n)]; exact h⟩
theorem Kp.push {k : Nat} {O : Sto} {c : Cell} : Kp k O (O ++ [c]) := ⟨by rw [List.length_append]; omega, fun i d n h => by rw [List.getElem?_append_left (List.getElem?_eq_some_iff.mp h).1]; exact h⟩
theorem log2_le {x y : Nat} (h : x ≤ y) : x.log2 ≤ y.log2 := by
  by_cases hx : x = 0
  · subst hx
    simp
  · have h1 : y < 2 ^ (y.log2 + 1) := Nat.lt_log2_self
    have h2 : x < 2 ^ (y.log2 + 1) := Nat.lt_of_le_of_lt h h1
    have h3 := (Nat.log2_lt hx).mpr h2
    omega
/-- the feed's three ints, n more draws allowed -/
structure FdI (a b c : Int) (n : Nat) : Prop where
  a0 : 0 ≤ a
  a1 : a.natAbs.log2 < 2000000
  b0 : 0 ≤ b
  b1 : b < 2 ^ 140
  c0 : 0 ≤ c
  c1 : c + n ≤ 2 ^ 40
def Fd (O : Sto) (k n : Nat) : Prop := ∃ a b c, O[k]? = some (.lst [.int a, .int b, .int c]) ∧ FdI a b c n
theorem Fd.mono {O : Sto} {k n m : Nat} (h : Fd O k n) (l : m ≤ n) : Fd O k m := by
  obtain ⟨a, b, c, e, q⟩ := h
  exact ⟨a, b, c, e, q.a0, q.a1, q.b0, q.b1, q.c0, by have := q.c1; omega⟩
theorem Fd.push {O : Sto} {k n : Nat} {c : Cell} (h : Fd O k n) : Fd (O ++ [c]) k n := by
  obtain ⟨x, y, z, e, q⟩ := h
  exact ⟨x, y, z, by rw [List.getElem?_append_left (List.getElem?_eq_some_iff.mp e).1]; exact e, q⟩
theorem Fd.set {O : Sto} {k n i : Nat} {c : Cell} (h : Fd O k n) (ne : i ≠ k) : Fd (O.set i c) k n := by
  obtain ⟨x, y, z, e, q⟩ := h
  exact ⟨x, y, z, by rw [List.getElem?_set_ne ne]; exact e, q⟩
theorem Fd.lt {O : Sto} {k n : Nat} (h : Fd O k n) : k < O.length := by
  obtain ⟨x, y, z, e, q⟩ := h
  exact (List.getElem?_eq_some_iff.mp e).1
/-- a draw below m -/
def sp_law_draw : SpD := fun ws O S => ∃ k m n, ws = [.cell k, .int m] ∧ 0 < m ∧ m < 2 ^ 300 ∧ Fd O k (n + 1) ∧ ∀ r O', 0 ≤ r → r < m → Kp k O O' → Fd O' k n → S (.int r) O'
/-- one of the things in a cell (a list that is no feed), in a tuple -/
def sp_law_one : SpD := fun ws O S => ∃ k x us n, ws = [.cell k, x] ∧ ((∃ j, x = .cell j ∧ j ≠ k ∧ LstC O j us) ∨ x = .tup us) ∧ us ≠ [] ∧ us.length < 100000 ∧ Fd O k (n + 1) ∧ ∀ w O', w ∈ us → Kp k O O' → Fd O' k n → S w O'

def d_law_draw : DTS := (dSeq (dIf (dTest (dGt (dOp rdIxL (dVar 0) (dC (.int 0))) (dC (.int 0)))) (dSeq (dSet 3 (dDiv (dOp rdIxL (dVar 0) (dC (.int 0))) (dVar 1)))
    (dSeq (dSet 4 (dSub (dOp rdIxL (dVar 0) (dC (.int 0))) (dMul (dVar 3) (dVar 1))))
    (dSeq (dAsg (dVar 3) (dgSubL (dVar 0) (dC (.int 0))))
    (dRet (dVar 4))))) dNext)
    (dSeq (dAsg (dAdd (dOp rdIxL (dVar 0) (dC (.int 2))) (dC (.int 1))) (dgSubL (dVar 0) (dC (.int 2))))
    (dSeq (dSet 2 (dAdd (dOp rdIxL (dVar 0) (dC (.int 1))) (dMul (dC (.int 6700417)) (dOp rdIxL (dVar 0) (dC (.int 2))))))
    (dSeq (dSet 2 (dMod (dCB rdInt1 (dCons (dAdd (dMul (dMul (dVar 2) (dVar 2)) (dVar 2)) (dMul (dC (.int 15485863)) (dOp rdIxL (dVar 0) (dC (.int 2))))) dNil)) (dAdd (dPow (dC (.int 10)) (dC (.int 43))) (dC (.int 57)))))
    (dSeq (dSet 2 (dMod (dCB rdInt1 (dCons (dAdd (dMul (dVar 2) (dVar 2)) (dC (.int 32452843))) dNil)) (dAdd (dPow (dC (.int 10)) (dC (.int 38))) (dC (.int 133)))))
    (dRet (dMod (dCB rdInt1 (dCons (dDiv (dVar 2) (dPow (dC (.int 10)) (dC (.int 9)))) dNil)) (dVar 1))))))))
abbrev outD (S : WK) : DEnds := { nx := fun _ O' => S .non O', rt := S }
theorem lcS {O : Sto} {k : Nat} {c d : Cell} (h : O[k]? = some c) : (O.set k d)[k]? = some d := by
  rw [List.getElem?_set_self (List.getElem?_eq_some_iff.mp h).1]
theorem mulB {i j : Int} {a b : Nat} (ha : i.natAbs < 2 ^ a) (hb : j.natAbs < 2 ^ b) (h0 : 0 < a) (h1 : 0 < b) (h : a + b ≤ 1000000) : CMulB i j := by
  have h2 := wide_mul ha hb h0 h1 h
  unfold CMulW at h2
  unfold CMulB
  omega
theorem rd_law_draw (ws : List W) (O : Sto) (S : WK) (h : sp_law_draw ws O S) : d_law_draw (outD S) (startD ["_law_feed_here", "_law_many", "_law_stir", "_law_rest", "_law_got"] ws) O := by
  obtain ⟨k, m, n, rfl, m0, m1, ⟨a, b, c, e, q⟩, fin⟩ := h
  obtain ⟨a0, a1, b0, b1, c0, c1⟩ := q
  refine ⟨_, rfl, _, _, _, _, rfl, rfl, .inl e, rfl, _, _, rfl, rfl, _, rfl, ite2 (fun h => ?_) (fun h => ?_)⟩
  · have hlog : (a / m).natAbs.log2 ≤ a.natAbs.log2 := log2_le (by
      have h1 : 0 ≤ a / m := Int.ediv_nonneg a0 (by omega)
      have h2 : a / m ≤ a := Int.ediv_le_self _ a0
      omega)
    have hm : m.natAbs.log2 < 300 := PySem.Flt.log2_lt_of (by decide) (show m.natAbs < 2 ^ 300 by omega)
    refine ⟨_, rfl, _, _, _, _, rfl, rfl, .inl e, rfl, _, rfl, _, _, rfl, rfl, ⟨m0, by omega⟩, ?_⟩
    refine ⟨_, rfl, _, _, _, _, rfl, rfl, .inl e, rfl, _, rfl, _, rfl, _, _, rfl, rfl, (show CMulB (a / m) m by unfold CMulB; omega), _, _, rfl, rfl, ?_⟩
    refine ⟨_, rfl, _, rfl, k, _, _, _, rfl, rfl, e, rfl, ?_⟩
    have hr := Int.emod_add_mul_ediv a m
    rw [Int.mul_comm] at hr
    have hr0 := Int.emod_nonneg a (show m ≠ 0 by omega)
    have hr1 := Int.emod_lt_of_pos a m0
    refine ⟨_, rfl, fin _ _ ?_ ?_ Kp.set ⟨a / m, b, c, lcS e, Int.ediv_nonneg a0 (by omega), by omega, b0, b1, c0, by omega⟩⟩
    · omega
    · omega
  · refine ⟨_, rfl, _, _, _, _, rfl, rfl, .inl e, rfl, _, _, rfl, rfl, _, rfl, k, _, _, _, rfl, rfl, e, rfl, ?_⟩
    have e2 := lcS (d := .lst [.int a, .int b, .int (c + 1)]) e
    have hc : (c + 1).natAbs < 2 ^ 41 := by omega
    have hs : (b + 6700417 * (c + 1)).natAbs < 2 ^ 141 := by omega
    have hss := wide_lt hs hs
    have big43 : (0 : Int) < 10 ^ 43 + 57 := by decide
    have big38 : (0 : Int) < 10 ^ 38 + 133 := by decide
    refine ⟨_, rfl, _, _, _, _, rfl, rfl, .inl e2, rfl, _, rfl, _, _, _, _, rfl, rfl, .inl e2, rfl, _, _, rfl, rfl, mulB (a := 23) (b := 41) (by decide) hc (by decide) (by decide) (by decide), _, _, rfl, rfl, ?_⟩
    show dSeq _ _ _ (List.set _ _ (some (W.int (b + 6700417 * (c + 1))))) _
    generalize b + 6700417 * (c + 1) = x at hs hss
    have hss3 := wide_lt hss hs
    refine ⟨_, rfl, _, rfl, _, _, rfl, rfl, mulB (a := 141) (b := 141) hs hs (by decide) (by decide) (by decide), _, rfl, _, _, rfl, rfl, mulB (a := 282) (b := 141) hss hs (by decide) (by decide) (by decide), _, rfl, _, _, _, _, rfl, rfl, .inl e2, rfl, _, _, rfl, rfl, mulB (a := 24) (b := 41) (by decide) hc (by decide) (by decide) (by decide), _, _, rfl, rfl, .inl ⟨_, rfl, ?_⟩⟩
    refine ⟨_, _, rfl, rfl, (by show CPow 10 43; unfold CPow; decide), _, _, rfl, rfl, _, _, rfl, rfl, big43, ?_⟩
    have y0 := Int.emod_nonneg (x * x * x + 15485863 * (c + 1)) (show (10 : Int) ^ 43 + 57 ≠ 0 by omega)
    have y1 := Int.emod_lt_of_pos (x * x * x + 15485863 * (c + 1)) big43
    have yb : ((x * x * x + 15485863 * (c + 1)) % (10 ^ 43 + 57)).natAbs < 2 ^ 144 := by omega
    show dSeq _ _ _ (List.set _ _ (some (W.int ((x * x * x + 15485863 * (c + 1)) % (10 ^ 43 + 57))))) _
    generalize (x * x * x + 15485863 * (c + 1)) % (10 ^ 43 + 57) = y at y0 y1 yb
    refine ⟨_, rfl, _, rfl, _, _, rfl, rfl, mulB (a := 144) (b := 144) yb yb (by decide) (by decide) (by decide), _, _, rfl, rfl, .inl ⟨_, rfl, ?_⟩⟩
    refine ⟨_, _, rfl, rfl, (by show CPow 10 38; unfold CPow; decide), _, _, rfl, rfl, _, _, rfl, rfl, big38, ?_⟩
    refine ⟨_, rfl, _, _, rfl, rfl, (by show CPow 10 9; unfold CPow; decide), _, _, rfl, rfl, ⟨by decide, by decide⟩, .inl ⟨_, rfl, ?_⟩⟩
    refine ⟨_, rfl, _, _, rfl, rfl, m0, ?_⟩
    exact fin _ _ (Int.emod_nonneg _ (by omega)) (Int.emod_lt_of_pos _ m0) Kp.set ⟨a, b, c + 1, lcS e, a0, a1, b0, b1, by omega, by omega⟩
def d_law_one : DTS := (dRet (dOp rdIxL (dVar 1) (dCall sp_law_draw (dCons (dVar 0) (dCons (dCB rdLen (dCons (dVar 1) dNil)) dNil)))))
def d_law_oneT : DTS := (dRet (dOp rdIxT (dVar 1) (dCall sp_law_draw (dCons (dVar 0) (dCons (dCB rdLen (dCons (dVar 1) dNil)) dNil)))))
theorem atI_in {us : List W} {r : Int} (h0 : 0 ≤ r) (h1 : r < us.length) : ∃ w, w ∈ us ∧ atI us r = some w := by
  have hl : r.toNat < us.length := by omega
  refine ⟨us[r.toNat], List.getElem_mem _, ?_⟩
  have e := atI_nat (j := r.toNat) (xs := us) (List.getElem?_eq_getElem hl)
  rwa [Int.toNat_of_nonneg h0] at e
theorem Kp.lstC {k : Nat} {O O' : Sto} (h : Kp k O O') {j : Nat} (ne : j ≠ k) {us : List W} (c : LstC O j us) : LstC O' j us := by
  rcases c with c | c
  · exact .inl (h.at_ j _ ne c)
  · exact .inr (h.at_ j _ ne c)
end Dm

set_option Elab.async false
set_option linter.all false
set_option maxRecDepth 100000
set_option maxHeartbeats 4000000
/-! Classes of exceptions of the program with own __init__, called with keywords. -/
namespace Dm
open PySem PySem.Spec PyProof.Rows PySem.W PySem.Calls PySem.HandSPX
section
variable {prog : Program} {w : World} {A : Around} {E : Value → Shared → Prop} {R : Result → Shared → Prop} {h : Heap} {g : Array GenState} {d : Drawn} {t : Nat} {os : OsState}
variable {nm q : Str} {C N : Addr} {bs bm bmB : List Value} {hdct : Bool} {sn : List Str} {sub : List Value} {ab : Bool} {col : Option Bool} {dd : Option Addr} {k0 k1 k2 k3 k5 : Option Value} {B newId initId : String} {kw : List (Str × Value)}
theorem kw_chk {M : Model} {rest : List Value} {Q : Unit → Shared → Prop} (hC : h.get? C = some (excClassObj nm q C N bs bm hdct sn sub ab col dd k0 k1 k2 k3 k5 newId))
    (done : Q () ⟨h, g, d, t, os⟩) : wpAny M A (checkBuiltinCall "type.__call__" ⟨.ref C :: rest, kw⟩) Q E ⟨h, g, d, t, os⟩ := by
  have z3 := tc_sub
  have zT : (⟨h, g, d, t, os⟩ : Shared).TypeIs (.ref C) "type" := ⟨_, hC, rfl⟩
  simp only [checkBuiltinCall, tc_kind, tc_split]
  repeat (any_goals (first | assumption | (with_reducible refine wpAny_loadPart_at hC ?_) | (with_reducible refine wpAny_onRaise ?_) | (with_reducible refine wpAny_map ?_) | wp_step))
theorem kw_new (F : ExcBaseFacts B newId initId bmB) (hT : ∀ X : String, bm.contains (.type X) = bmB.contains (.type X)) {rest : List Value} {Q : Unit → Shared → Prop}
    (hC : h.get? C = some (excClassObj nm q C N bs bm hdct sn sub ab col dd k0 k1 k2 k3 k5 newId)) (done : Q () ⟨h, g, d, t, os⟩) : wpAny (model prog w) A (checkBuiltinCall newId ⟨.ref C :: rest, kw⟩) Q E ⟨h, g, d, t, os⟩ := by
  have zB : (Value.ref C :: bm).contains (.type B) = true := by rw [List.contains_cons, hT, F.hasB, Bool.or_true]
  have zS := F.noStar
  simp only [checkBuiltinCall, F.newKind, F.newSplit, F.newRow]
  repeat (first | refine wpAny_loadPart_at hC ?_ | (refine wpAny_isSubtype_exc hC ?_; rw [zB]) | refine wpAny_staticBase_exc hC ?_ | refine wpAny_madeBy_exc hC ?_ | simp only [bne_self_eq_false, Bool.false_eq_true, if_false] | wp_step)
  exact done
theorem kw_made (F : ExcBaseFacts B newId initId bmB) (hT : ∀ X : String, bm.contains (.type X) = bmB.contains (.type X)) {rest : List Value}
    (hC : h.get? C = some (excClassObj nm q C N bs bm hdct sn sub ab col dd k0 k1 k2 k3 k5 newId))
    (done : R (.ok (.ret (.ref (h.objs.size + 1)))) ⟨(h.push (W.kdv_tup rest)).push (excO C h.objs.size), g, d, t, os⟩) (hrest : rest.length ≤ sizeLine) :
    codeAny (model prog w) A (.builtin newId ⟨.ref C :: rest, kw⟩) R ⟨h, g, d, t, os⟩ := by
  have zE := F.ends
  have zB : (Value.ref C :: bm).contains (.type B) = true := by rw [List.contains_cons, hT, F.hasB, Bool.or_true]
  have zA : (Value.ref C :: bm).contains (.type "AttributeError") = false := by rw [List.contains_cons, hT, F.noAttr]; rfl
  have zN : (Value.ref C :: bm).contains (.type "NameError") = false := by rw [List.contains_cons, hT, F.noName]; rfl
  refine codeAny_builtinAt F.entry ?_
  unfold Builtin.«BaseException.__new__»
  refine PySem.wpAt_bind ?_
  show PySem.wpAt _ _ _ (stack >>= _) _ _ _
  refine PySem.wpAt_bind (PySem.wpAt_stack fun p below => PySem.wpAt_of_wpAny ?_)
  wp_walk
  refine PySem.wpAt_of_wpAny ?_
  rw [F.owner]
  repeat (first | with_reducible refine wpAny_madeHere_exc F.canon hC ?_ | with_reducible refine wpAny_loadPart_at hC ?_ | (with_reducible refine wpAny_isSubtype_exc hC ?_; first | rw [zB] | rw [zA] | rw [zN]) | wp_step)
  show R _ _
  rw [Heap.size_push]
  exact done
theorem kw_call (F : ExcBaseFacts B newId initId bmB) (hT : ∀ X : String, bm.contains (.type X) = bmB.contains (.type X)) {rest : List Value} {fI : Addr} {Q : Fin → Shared → Prop}
    (hC : h.get? C = some (excClassObj nm q C N bs bm hdct sn sub ab col dd k0 k1 k2 k3 k5 newId))
    (hi : W.Looks (model prog w) h (typeLookup (.ref C) "__init__") (some (.ref fI))) (hb : ∀ self, W.Looks (model prog w) h (bindSpecial (.ref fI) self) (.ref fI, [self])) (hrest : rest.length ≤ sizeLine)
    (done : codeAny (model prog w) A (.call (.ref fI) ⟨.ref (h.objs.size + 1) :: rest, kw⟩)
      (fun r s' => match r with | .ok (.ret v) => v = .none ∧ Q (.done (.ret (.ref (h.objs.size + 1)))) s' | .ok _ => False | .error e => E e s')
      ⟨(h.push (W.kdv_tup rest)).push (excO C h.objs.size), g, d, t, os⟩) :
    wpAny (model prog w) A (Builtin.«type.__call__» ⟨.ref C :: rest, kw⟩) Q E ⟨h, g, d, t, os⟩ := by
  repeat (first | with_reducible refine wpAny_loadPart_at hC ?_ | with_reducible refine wpAny_madeBy_exc hC ?_ | wp_step)
  refine codeAny_call_builtin_code (Code.quiet_builtin _ F.quiet) (kw_new F hT hC ?_)
  refine kw_made F hT hC ?_ hrest
  show wpAny _ _ _ _ _ _
  have kk : ∀ b o, h.get? b = some o → ((h.push (W.kdv_tup rest)).push (excO C h.objs.size)).get? b = some o := fun b o e => Heap.get?_push_of_some _ (Heap.get?_push_of_some _ e)
  have zC := kk _ _ hC
  have zg : ((h.push (W.kdv_tup rest)).push (excO C h.objs.size)).get? (h.objs.size + 1) = some (excO C h.objs.size) := by heap_get
  have zc : (Value.ref C :: bm).contains (.ref C) = true := by simp
  have zi := hi.keeps kk
  have zb := (hb (.ref (h.objs.size + 1))).keeps kk
  unfold isInstance
  repeat (first | with_reducible refine wpAny_loadPart_at zg ?_ | (with_reducible refine wpAny_isSubtype_exc zC ?_; rw [zc]) | wp_step)
  show wpAny _ _ (typeLookup (.ref C) _) _ _ _
  refine zi.at ?_
  refine wpAny_holding (wpAny_bind (zb.at ?_))
  refine wpAny_bind (wpAny_call (codeAny_mono done fun r s' z => ?_))
  rcases r with e | (v | _ | _ | _) <;> first | exact z | exact z.elim | skip
  obtain ⟨rfl, z⟩ := z
  first
    | exact wpAny_pure (wpAny_pure z)
    | (wp_walk; exact z)
theorem kw_own (F : ExcBaseFacts B newId initId bmB) (hT : ∀ X : String, bm.contains (.type X) = bmB.contains (.type X)) {rest : List Value} {fI : Addr}
    (hC : h.get? C = some (excClassObj nm q C N bs bm hdct sn sub ab col dd k0 k1 k2 k3 k5 newId))
    (hi : W.Looks (model prog w) h (typeLookup (.ref C) "__init__") (some (.ref fI))) (hb : ∀ self, W.Looks (model prog w) h (bindSpecial (.ref fI) self) (.ref fI, [self])) (hrest : rest.length ≤ sizeLine)
    (done : codeAny (model prog w) (A.under (.builtin "type.__call__" ⟨.ref C :: rest, kw⟩)) (.call (.ref fI) ⟨.ref (h.objs.size + 1) :: rest, kw⟩) (W.InitBack (h.objs.size + 1) R)
      ⟨(h.push (W.kdv_tup rest)).push (excO C h.objs.size), g, d, t, os⟩) :
    codeAny (model prog w) A (.call (.ref C) ⟨rest, kw⟩) R ⟨h, g, d, t, os⟩ := by
  have z1 := tc_lookup
  have z2 := tc_bind (.ref C)
  have zT : (⟨h, g, d, t, os⟩ : Shared).TypeIs (.ref C) "type" := ⟨_, hC, rfl⟩
  refine codeAny_of_tree ?_
  show wpAny _ _ (callAny (.ref C) _) _ _ _
  repeat (any_goals (first | assumption | with_reducible refine wpAny_loadPart_at hC ?_ | wp_step))
  refine ⟨rfl, ?_⟩
  refine codeAny_call_builtin_at (Code.quiet_builtin _ (by decide +kernel)) entry_typeCall (kw_chk hC (kw_call F hT hC hi hb hrest ?_))
  refine codeAny_mono done fun r s' z => ?_
  rcases r with e | (v | _ | _ | _) <;> exact z
end
end Dm

set_option Elab.async false
set_option linter.all false
set_option maxRecDepth 100000
set_option maxHeartbeats 4000000
/-! The data machine: exceptions. -/
namespace Dm
open PySem PySem.Spec PyProof.Rows L2

/-! ### classes of exceptions -/
/-- what a class of exceptions of the program says -/
structure XC (K : PySem.W.Frag) (C : Addr) : Prop where
  cl : (PySem.W.clsIn K C).isSome = true
  ga : PySem.W.findIn K (.ref C) "__getattribute__" = some (some (.builtin "BaseException.__getattribute__"))
  gg : PySem.W.findIn K (.ref C) "__getattr__" = some none
  sb : PySem.W.subIn K (.ref C) (.type "BaseException") = some true
  ca : PySem.W.findIn K (.ref C) "__class__" = some (some (.builtin "object.__class__"))
  sp : PySem.W.specialIn K (.builtin "object.__class__") "__get__" = some (some (.builtin "getset_descriptor.__get__"))
  tk : PySem.W.takesIn K (.builtin "object.__class__") = some true
  mr : PySem.W.mroIn K C (.type "object") = some true
  hd : PySem.W.hasDictIn K C = true
  kp : PySem.W.keepIn K (.ref C) = true
  ty : PySem.W.typeIn K (.ref C) = some (.type "type")
def xcB (K : PySem.W.Frag) (C : Addr) : Bool := (PySem.W.clsIn K C).isSome &&
  (He.eqO (PySem.W.findIn K (.ref C) "__getattribute__") (some (some (.builtin "BaseException.__getattribute__"))) && (He.eqO (PySem.W.findIn K (.ref C) "__getattr__") (some none) &&
  (decide (PySem.W.subIn K (.ref C) (.type "BaseException") = some true) && (He.eqO (PySem.W.findIn K (.ref C) "__class__") (some (some (.builtin "object.__class__"))) &&
  (He.eqO (PySem.W.specialIn K (.builtin "object.__class__") "__get__") (some (some (.builtin "getset_descriptor.__get__"))) && (decide (PySem.W.takesIn K (.builtin "object.__class__") = some true) &&
  (decide (PySem.W.mroIn K C (.type "object") = some true) && (PySem.W.hasDictIn K C && (PySem.W.keepIn K (.ref C) && decide (PySem.W.typeIn K (.ref C) = some (.type "type")))))))))))
theorem xcB_ok {K : PySem.W.Frag} {C : Addr} (h : xcB K C = true) : XC K C := by
  obtain ⟨h1, h⟩ := He.ba h
  obtain ⟨h2, h⟩ := He.ba h
  obtain ⟨h3, h⟩ := He.ba h
  obtain ⟨h4, h⟩ := He.ba h
  obtain ⟨h5, h⟩ := He.ba h
  obtain ⟨h6, h⟩ := He.ba h
  obtain ⟨h7, h⟩ := He.ba h
  obtain ⟨h8, h⟩ := He.ba h
  obtain ⟨h9, h⟩ := He.ba h
  obtain ⟨h10, h11⟩ := He.ba h
  exact ⟨h1, He.eqO_ok h2, He.eqO_ok h3, of_decide_eq_true h4, He.eqO_ok h5, He.eqO_ok h6, of_decide_eq_true h7, of_decide_eq_true h8, h9, h10, of_decide_eq_true h11⟩
/-- .. without an __init__ of its own -/
structure XC0 (K : PySem.W.Frag) (C : Addr) : Prop extends XC K C where
  ex : PySem.W.excIn K C He.veBase "ValueError.__new__" = true
def xc0B (K : PySem.W.Frag) (C : Addr) : Bool := xcB K C && PySem.W.excIn K C He.veBase "ValueError.__new__"
theorem xc0B_ok {K : PySem.W.Frag} {C : Addr} (h : xc0B K C = true) : XC0 K C := ⟨xcB_ok (He.ba h).1, (He.ba h).2⟩
/-- .. with one -/
structure XCI (K : PySem.W.Frag) (C fI : Addr) : Prop extends XC K C where
  ox : OexC K C
  iC : PySem.W.findIn K (.ref C) "__init__" = some (some (.ref fI))
  tI : PySem.W.typeIn K (.ref fI) = some (.type "function")
def oexB (K : PySem.W.Frag) (C : Addr) : Bool := match K.lookup C with
  | some ⟨.type ty, _, .cls cd, sl⟩ => decide (ty = "type") && (match cd.mro, sl.toList with
    | .ref C' :: bm, [_, _, _, _, some (.builtin n), _] => decide (C' = C) && (PySem.HandSPX.refsVE bm && (cd.hasDict && (!cd.hasDel && decide (n = "ValueError.__new__"))))
    | _, _ => false)
  | _ => false
def xciB (K : PySem.W.Frag) (C fI : Addr) : Bool := xcB K C && (oexB K C && (He.eqO (PySem.W.findIn K (.ref C) "__setattr__") (some (some (.builtin "object.__setattr__"))) &&
  (He.eqO (PySem.W.findIn K (.ref C) "__init__") (some (some (.ref fI))) && decide (PySem.W.typeIn K (.ref fI) = some (.type "function")))))
theorem oexB_ok {K : PySem.W.Frag} {C : Addr} (h : oexB K C = true) : ∃ nm q N bs bm sn sub ab col dd k0 k1 k2 k3 k5, K.lookup C = some (excClassObj nm q C N bs bm true sn sub ab col dd k0 k1 k2 k3 k5 "ValueError.__new__") ∧ PySem.HandSPX.refsVE bm = true := by
  unfold oexB at h
  split at h
  · rename_i ty dd cd sl ho
    obtain ⟨h0, h⟩ := He.ba h
    split at h
    · rename_i C' bm k0 k1 k2 k3 n k5 hm hs
      obtain ⟨h1, h⟩ := He.ba h
      obtain ⟨h2, h⟩ := He.ba h
      obtain ⟨h3, h⟩ := He.ba h
      obtain ⟨h4, h5⟩ := He.ba h
      obtain rfl := of_decide_eq_true h0
      obtain rfl := of_decide_eq_true h1
      obtain rfl := of_decide_eq_true h5
      obtain ⟨nm, bs, mro, ns, qn, hd, sn, sub, ab, col, del⟩ := cd
      dsimp only at hm h3 h4
      subst hm h3
      have h6 : del = false := by cases del <;> simp_all
      subst h6
      have hsl : sl = #[k0, k1, k2, k3, some (.builtin "ValueError.__new__"), k5] := by
        obtain ⟨l⟩ := sl
        simp only at hs
        rw [hs]
      subst hsl
      exact ⟨nm, qn, ns, bs, bm, sn, sub, ab, col, dd, k0, k1, k2, k3, k5, ho, h2⟩
    · cases h
  · cases h
theorem xciB_ok {K : PySem.W.Frag} {C fI : Addr} (h : xciB K C fI = true) : XCI K C fI := by
  obtain ⟨h1, h⟩ := He.ba h
  obtain ⟨h2, h⟩ := He.ba h
  obtain ⟨h3, h⟩ := He.ba h
  obtain ⟨h4, h5⟩ := He.ba h
  have x := xcB_ok h1
  exact ⟨x, ⟨oexB_ok h2, He.eqO_ok h3, x.sb, x.ty, x.kp⟩, He.eqO_ok h4, of_decide_eq_true h5⟩
/-! ### asked, read -/
section
variable {X : Cx} {te : TE} {e : Expr} {pos : Pos} {n : Str}
theorem inst_none {H : Hp} {s : Shared} {pins : List (Addr × Obj)} {σ : L2.St} {a D : Addr} (I : Inv X pins σ H s) (h : H a = some (ExO (.ref D) a)) : ∃ ox, PySem.W.InstAt s.heap a ox D none := by
  obtain ⟨⟨oe, vs, ho, ⟨h1, h2⟩, hd, _⟩, _, _⟩ := I.hok a _ h
  obtain ⟨oc, od, oda, osl⟩ := oe
  dsimp only at h1 h2 hd
  subst h1 h2 hd
  exact ⟨_, ho, rfl, rfl, trivial⟩
theorem inst_some {H : Hp} {s : Shared} {pins : List (Addr × Obj)} {σ : L2.St} {a D d : Addr} {fs : List (Str × V)} (I : Inv X pins σ H s) (h : H a = some (exo a D (some d))) (h2 : H d = some (exd d fs)) :
    ∃ ox od, PySem.W.InstAt s.heap a ox D (some od) ∧ ∃ mA : Str → Option Value, (∀ f, RelO (fs.lookup f) (mA f)) ∧ ∀ x, PySem.W.lookIn x od = some (mA x) := by
  obtain ⟨t1, ho⟩ := exo_at I.hok h
  obtain ⟨mA, hns, hr⟩ := exd_at I.hok h2
  obtain ⟨od, hod, hl⟩ := lookIn_ns hns
  exact ⟨_, od, ⟨ho, rfl, rfl, hod⟩, mA, hr, hl⟩
/-- isinstance of an exception that the program holds as a value -/
def rIsO (K : PySem.W.Frag) : List V → Hp → VK → Prop := fun xs H Q => ∃ (a D : Addr) (c : V) (cv : Value) (b : Bool), xs = [.ref a, c] ∧ (H a = some (ExO (.ref D) a) ∨ ∃ d fs, H a = some (exo a D (some d)) ∧ H d = some (exd d fs)) ∧ XC K D ∧
  (∀ u, RelV c u → u = cv) ∧ PySem.W.kitOne K (.ref D) cv = some b ∧ Q (.bl b) H
theorem call_isO : CallR X (.builtin "isinstance") (rIsO X.K) := by
  intro pins s σ H xs us Q I r h
  obtain ⟨a, D, c, cv, b, rfl, ho, C, hcv, e, q⟩ := h
  cases r with
  | cons rx rr =>
    cases rr with
    | cons rt rr =>
      cases rr
      cases rx
      have ec := hcv _ rt
      subst ec
      have out : ∀ {ox od}, PySem.W.InstAt s.heap a ox D od → _ := fun {ox od} J => PySem.W.kia_one (Q := EP X pins σ Q) (E := X.xe) (A := X.A) (prog := X.prog) (w := X.w) (PySem.W.kitx_exc (ox := ox) (od := od) C.cl C.ga C.gg C.sb C.ca C.sp C.tk C.mr) I.kIn J e (fun z => nomatch z) fun tk => ⟨.bl b, H, I.kept (t' := tk) fun _ _ z => z, rfl, q⟩
      rcases ho with ho | ⟨d, fs, h1, h2⟩
      · obtain ⟨ox, J⟩ := inst_none I ho
        exact out J
      · obtain ⟨ox, od, J, _⟩ := inst_some I h1 h2
        exact out J
/-- isinstance of the exception that a suite holds -/
def rIsC (K : PySem.W.Frag) (a : Addr) (cls : Value) : List V → Hp → VK → Prop := fun xs H Q => ∃ (D : Addr) (c : V) (cv : Value) (b : Bool), cls = .ref D ∧ xs = [.ref a, c] ∧ XC K D ∧ (∀ u, RelV c u → u = cv) ∧ PySem.W.kitOne K (.ref D) cv = some b ∧ Q (.bl b) H
/-- o.n of such a value -/
def tXo (K : PySem.W.Frag) (n : Str) (te : TE) : TE := fun σ H Q => te σ H fun x H1 => ∃ (a C d : Addr) (fs : List (Str × V)) (v : V), x = .ref a ∧ XC K C ∧ PySem.W.findIn K (.ref C) n = some none ∧ H1 a = some (exo a C (some d)) ∧ H1 d = some (exd d fs) ∧ fs.lookup n = some v ∧ Q v H1
theorem pe_xo (he : PE X e te) (hb : attributeBase e n X.env (eval e X.env) = eval e X.env := by rfl) : PE X (.Attribute e n pos) (tXo X.K n te) := by
  refine ⟨fun pins s σ H Q I h => ?_⟩
  refine attr_of hb (thn (he.run pins s σ H _ I h) fun u s1 hh => ?_)
  obtain ⟨x, H1, I1, rx, a, C, d, fs, v, rfl, xc, hno, h1, h2, l, q⟩ := hh
  obtain rfl : u = Value.ref a := rx
  obtain ⟨ox, od, J, mA, hr, hl⟩ := inst_some I1 h1 h2
  obtain ⟨u, hu, ru⟩ := RelO.some_of (v := v) (o := mA n) (by rw [← l]; exact hr n)
  exact HandSPX.exc_get I1.kIn J xc.ga xc.gg xc.sb (PySem.W.findObj_own xc.hd hno rfl (by rw [hl, hu])) (handed_of ru) ⟨v, H1, I1.tok _, ru, q⟩
end

/-! ### made -/
theorem RoomG.make {k : Nat} {A : Around} (h : RoomG (k + 1) A) (C : Addr) (us : List Value) (kw : List (Str × Value)) : RoomG k (A.under (.builtin "type.__call__" ⟨.ref C :: us, kw⟩)) := ⟨h.r.make C us kw, h.g⟩
/-- what an own __init__ that stores two fields promises -/
def spIni (C : Addr) (f g : Str) : Sp := fun vs H Q _ => ∃ (a : Addr) (x y : V), vs = [.ref a, x, y] ∧ H a = some (exo a C none) ∧ ∀ d, H d = none → d ≠ a → Q .non (upd (upd (upd H d (exd d [(f, x)])) a (exo a C (some d))) d (exd d [(g, y), (f, x)]))
section
variable {X : Cx} {C fI : Addr} {k : Nat} {fd : FuncData} {ps : List Str} {f g : Str}
theorem upd3 {H : Hp} {a d : Addr} {o1 o2 o3 o4 : HO} (n : d ≠ a) : upd (upd (upd (upd H a o1) d o2) a o3) d o4 = upd (upd H d o4) a o3 := by
  funext b
  by_cases h1 : b = d
  · subst h1
    rw [upd_same, upd_ne n, upd_same]
  · by_cases h2 : b = a
    · subst h2
      rw [upd_ne h1, upd_same, upd_same]
    · rw [upd_ne h1, upd_ne h2, upd_ne h1, upd_ne h2, upd_ne h2, upd_ne h1]
/-- C(..) as a value: a new object and its dict -/
theorem run_ini {pins : List (Addr × Obj)} {σ : L2.St} {H : Hp} {s : Shared} {Q : VK} {us bs : List Value} {kw : List (Str × Value)} {x y : V} {CX : CXT} (T : XCI X.K C fI) (F1 : FnOk X.prog X.w X.K X.mg X.base CX k fI fd ps (spIni C f g)) (hr : Room (k + 1) X.A)
    (hx : Passes CX X (fun _ _ _ => False)) (hus : us.length ≤ sizeLine) (hb : ∀ s a, X.K.In s.heap → BindsTo s fd ⟨.ref a :: us, kw⟩ (ps.zip (.ref a :: bs))) (I : Inv X pins σ H s) (r : Vals [x, y] bs)
    (h : ∀ a d, H d = none → H a = none → d ≠ a → Q (.ref a) (upd (upd H d (exd d [(g, y), (f, x)])) a (exo a C (some d)))) : wpAny (model X.prog X.w) X.A (call (.ref C) us kw) (EP X pins σ Q) X.xe s := by
  obtain ⟨nm, q, N, bs', bm, sn, sub, ab, col, dd, k0, k1, k2, k3, k5, hC, hbm⟩ := T.ox.cls
  obtain ⟨hp, g', dr, tk, os⟩ := s
  have hsz : hp.objs.size ≤ hp.objs.size + 1 := Nat.le_succ _
  have hn : H (hp.objs.size + 1) = none := I.hok.fresh hsz
  have kk : ∀ b o, hp.get? b = some o → ((hp.push (PySem.W.kdv_tup us)).push (PySem.HandSPX.excO C hp.objs.size)).get? b = some o := fun b o e => Heap.get?_push_of_some _ (Heap.get?_push_of_some _ e)
  have hget : ((hp.push (PySem.W.kdv_tup us)).push (PySem.HandSPX.excO C hp.objs.size)).get? (hp.objs.size + 1) = some (PySem.HandSPX.excO C hp.objs.size) := by heap_get
  have I2 : Inv X pins σ (upd H (hp.objs.size + 1) (exo (hp.objs.size + 1) C none)) ⟨(hp.push (PySem.W.kdv_tup us)).push (PySem.HandSPX.excO C hp.objs.size), g', dr, tk, os⟩ :=
    I.laid (t' := tk) (a := hp.objs.size + 1) (o := exo (hp.objs.size + 1) C none) (h' := (hp.push (PySem.W.kdv_tup us)).push (PySem.HandSPX.excO C hp.objs.size)) kk hsz (L2.exo_ok hget)
  have r2 : Vals [V.ref (hp.objs.size + 1), x, y] (Value.ref (hp.objs.size + 1) :: bs) := .cons rfl r
  refine wpAny_call (kw_own F.excBase_ValueError (fun Y => PySem.HandSPX.refsVE_contains Y bm hbm) (I.kIn _ _ hC) (PySem.W.looks_findIn I.kIn T.iC) (fun self => PySem.W.bind_fn I.kIn self T.tI) hus
    (codeAny_mono (F1.run _ X.stack _ _ ⟨Value.ref (hp.objs.size + 1) :: us, kw⟩ (Value.ref (hp.objs.size + 1) :: bs) _ (fun v H2 => v = .non ∧ Q (.ref (hp.objs.size + 1)) H2) (fun _ _ _ => False) (hr.make C us kw) (I2.env0.make C us kw) (hb _ _ I2.kIn) r2
      ⟨_, x, y, rfl, upd_same, fun d hd nd => ⟨rfl, ?_⟩⟩) fun r s' hq' => ?_))
  · rw [upd3 nd]
    rw [upd_ne nd] at hd
    exact h _ _ hd hn nd
  cases r with
  | error er => exact hx pins σ _ _ er s' I2 hq'
  | ok fl =>
    cases fl with
    | ret u =>
      obtain ⟨v, H', I3, rv, ⟨ev, q3⟩⟩ := I2.after hq'
      subst ev
      exact ⟨rv, V.ref (hp.objs.size + 1), H', I3, rfl, q3⟩
    | next => exact False.elim hq'
    | brk => exact False.elim hq'
    | cont => exact False.elim hq'
end
/-! ### raised -/
theorem XC.rs {X : Cx} {C : Addr} (x : XC X.K C) : Raises X (.ref C) := raises_own x.sb x.ty
section
variable {X : Cx} {C fI : Addr} {k : Nat} {fd : FuncData} {ps : List Str} {f g x : Str} {e : Expr} {es : List Expr} {t : TA} {p pos : Pos}
/-- X(e, ..) to be raised, no __init__ of its own -/
theorem pmk_x0 (T : XC0 X.K C) (gC : X.mg x = some (.ref C)) (hg : Gl X x) (ha : PA X (e :: es) t) (hdb : (x == ("__debug__" : Str)) = false := by decide)
    (he : starEach (e :: es) X.env = (false, eval e X.env) :: starEach es X.env := by rfl) (hpl : (backTo pos (starEach es X.env)).any (·.1) = false := by rfl) :
    L2N.PMk X (.Call (.Name x p) (e :: es) [] pos) (fun σ H Q => t σ H fun vs H1 => vs.length ≤ sizeLine ∧ Q (.ref C) none H1) := by
  intro pins s σ H Q I h
  refine wpAny_Call_Name_kw (ld_glob I hg gC ?_ hdb)
  refine PySem.W.callWith_K (h₀ := X.base) I.ok.mod.kin T.kp (thn (ha.run pos pins s σ H _ I h) fun us s1 ⟨vs, H1, I1, r1, hz, q1⟩ => ⟨I1.kIn, ?_⟩) he hpl
  show wpAny _ _ (call (.ref C) us) _ _ _
  obtain ⟨bm, N, nm, qn, bs, hdct, sn, sub, ab, col, dd, k0, k1, k2, k3, k5, mN, hC, hN, hni, tl⟩ := exc_obj I1.kIn T.ex
  refine wpAny_call_exc_subT F.excBase_ValueError tl hC hN hni (fun h' a hm => ?_) (by rw [← r1.length]; exact hz)
  exact L2N.mk_of I1 hm T.rs q1 (I1.hok.gone hm.new)
/-- X(e, ..) as a value -/
theorem pe_x0 (T : XC0 X.K C) (gC : X.mg x = some (.ref C)) (hg : Gl X x) (ha : PA X (e :: es) t) (hdb : (x == ("__debug__" : Str)) = false := by decide)
    (he : starEach (e :: es) X.env = (false, eval e X.env) :: starEach es X.env := by rfl) (hpl : (backTo pos (starEach es X.env)).any (·.1) = false := by rfl) :
    PE X (.Call (.Name x p) (e :: es) [] pos) (fun σ H Q => t σ H fun vs H1 => vs.length ≤ sizeLine ∧ ∀ a, H1 a = none → Q (.ref a) (upd H1 a (ExO (.ref C) a))) := by
  refine ⟨fun pins s σ H Q I h => ?_⟩
  refine wpAny_Call_Name_kw (ld_glob I hg gC ?_ hdb)
  refine PySem.W.callWith_K (h₀ := X.base) I.ok.mod.kin T.kp (thn (ha.run pos pins s σ H _ I h) fun us s1 ⟨vs, H1, I1, r1, hz, q1⟩ => ⟨I1.kIn, ?_⟩) he hpl
  show wpAny _ _ (call (.ref C) us) _ _ _
  obtain ⟨bm, N, nm, qn, bs, hdct, sn, sub, ab, col, dd, k0, k1, k2, k3, k5, mN, hC, hN, hni, tl⟩ := exc_obj I1.kIn T.ex
  refine wpAny_call_exc_subT F.excBase_ValueError tl hC hN hni (fun h' a hm => ?_) (by rw [← r1.length]; exact hz)
  have hn : H1 a = none := I1.hok.gone hm.new
  obtain ⟨tt, ht, _, _⟩ := hm.there
  exact ⟨.ref a, upd H1 a (ExO (.ref C) a), I1.laidN hm.keeps hm.new hn (L2.exO_ok ht ⟨rfl, rfl⟩ rfl rfl rfl (show 4 < 6 by decide)), rfl, q1 a hn⟩
/-- C(x, y) with its own __init__, as a value -/
theorem pe_xi {CX : CXT} (T : XCI X.K C fI) (F1 : FnOk X.prog X.w X.K X.mg X.base CX k fI fd ps (spIni C f g)) (hr : Room (k + 1) X.A) (hx : Passes CX X (fun _ _ _ => False)) (hb : Binds X.K fd ps []) (hl : ps.length = 3)
    (gC : X.mg x = some (.ref C)) (hg : Gl X x) (ha : PA X (e :: es) t) (hdb : (x == ("__debug__" : Str)) = false := by decide)
    (he : starEach (e :: es) X.env = (false, eval e X.env) :: starEach es X.env := by rfl) (hpl : (backTo pos (starEach es X.env)).any (·.1) = false := by rfl) :
    PE X (.Call (.Name x p) (e :: es) [] pos) (fun σ H Q => t σ H fun vs H1 => ∃ y z, vs = [y, z] ∧ ∀ a d, H1 d = none → H1 a = none → d ≠ a → Q (.ref a) (upd (upd H1 d (exd d [(g, z), (f, y)])) a (exo a C (some d)))) := by
  refine ⟨fun pins s σ H Q I h => ?_⟩
  refine wpAny_Call_Name_kw (ld_glob I hg gC ?_ hdb)
  refine PySem.W.callWith_K (h₀ := X.base) I.ok.mod.kin T.kp (thn (ha.run pos pins s σ H _ I h) fun us s1 ⟨vs, H1, I1, r1, y, z, ev, q1⟩ => ⟨I1.kIn, ?_⟩) he hpl
  subst ev
  have hus : us.length = 2 := r1.length.symm
  refine run_ini T F1 hr hx (by show us.length ≤ _; rw [hus, sizeLine_eq]; omega) (fun s a KX => ?_) I1 r1 q1
  have b2 := hb s (.ref a :: us) KX (by rw [List.append_nil, List.length_cons, hus, hl])
  rw [List.append_nil] at b2
  exact b2
/-- .. by keywords alone -/
theorem pe_xik {CX : CXT} {kws : List Keyword} {ks : List Str} {gV : List V → List V → List V} {gU : List Value → List Value → List Value} {tlV : List V → List V} {tlU : List Value → List Value} (T : XCI X.K C fI) (F1 : FnOk X.prog X.w X.K X.mg X.base CX k fI fd ps (spIni C f g)) (hr : Room (k + 1) X.A)
    (hx : Passes CX X (fun _ _ _ => False)) (hl : ps.length = 3) (hb : KBinds X.K fd ps ks gU gV) (gC : X.mg x = some (.ref C)) (hg : Gl X x) (hkw : PK X kws t) (hgu : ∀ a ws, gU [a] ws = a :: tlU ws) (hgv : ∀ a ws, gV [a] ws = a :: tlV ws)
    (hall : (backToKw pos (keywordEach kws X.env)).all (·.1.isSome) = true := by rfl) (hks : (backToKw pos (keywordEach kws X.env)).filterMap (·.1) = ks := by rfl) (hdb : (x == ("__debug__" : Str)) = false := by decide)
    (hpl : ((backTo pos (starEach [] X.env)).any (·.1) || (backToKw pos (keywordEach kws X.env)).any (·.1.isNone)) = false := by rfl) :
    PE X (.Call (.Name x p) [] kws pos) (fun σ H Q => t σ H fun vs H1 => ∃ y z, tlV vs = [y, z] ∧ ∀ a d, H1 d = none → H1 a = none → d ≠ a → Q (.ref a) (upd (upd H1 d (exd d [(g, z), (f, y)])) a (exo a C (some d)))) := by
  refine ⟨fun pins s σ H Q I h => ?_⟩
  refine wpAny_Call_Name_kw (ld_glob I hg gC ?_ hdb)
  refine PySem.W.callWith_KW0 (h₀ := X.base) I.ok.mod.kin T.kp hall (thn (hkw.run pos pins s σ H _ I h) fun ws s1 ⟨vs, H1, I1, r1, y, z, ev, q1⟩ => ⟨I1.kIn, ?_⟩) hpl
  rw [hks]
  have rr : Vals [y, z] (tlU ws) := by
    have q := hb.rel (vs := [.non]) (us := [.none]) (.cons rfl .nil) r1
    rw [hgu, hgv, ev] at q
    cases q with
    | cons _ q => exact q
  refine run_ini T F1 hr hx (by show 0 ≤ _; exact Nat.zero_le _) (fun s a KX => ?_) I1 rr q1
  have b2 := hb.to s [.ref a] ws KX (by rw [hgu, List.length_cons, hl, ← rr.length]; rfl)
  rw [hgu] at b2
  exact b2
/-- C(x, y) to be raised -/
theorem pmk_xi {CX : CXT} (T : XCI X.K C fI) (F1 : FnOk X.prog X.w X.K X.mg X.base CX k fI fd ps (spIni C f g)) (hr : Room (k + 1) X.A) (hx : Passes CX X (fun _ _ _ => False)) (hb : Binds X.K fd ps []) (hl3 : ps.length = 3)
    (gC : X.mg x = some (.ref C)) (hg : Gl X x) (ha : PA X (e :: es) t) (hdb : (x == ("__debug__" : Str)) = false := by decide)
    (he : starEach (e :: es) X.env = (false, eval e X.env) :: starEach es X.env := by rfl) (hpl : (backTo pos (starEach es X.env)).any (·.1) = false := by rfl) :
    L2N.PMk X (.Call (.Name x p) (e :: es) [] pos) (fun σ H Q => t σ H fun vs H1 => ∃ y z, vs = [y, z] ∧ ∀ d, H1 d = none → Q (.ref C) (some d) (upd H1 d (.xd [(g, z), (f, y)]))) := by
  intro pins s σ H Q I h
  obtain ⟨nm, q, N, bs', bm, sn, sub, ab, col, dd, k0, k1, k2, k3, k5, hC, hbm⟩ := T.ox.cls
  refine wpAny_Call_Name_kw (ld_glob I hg gC ?_ hdb)
  refine PySem.W.callWith_K (h₀ := X.base) I.ok.mod.kin T.kp (thn (ha.run pos pins s σ H _ I h) fun us s1 ⟨vs, H1, I1, r1, y, z, ev, q1⟩ => ⟨I1.kIn, ?_⟩) he hpl
  subst ev
  have hus : us.length = 2 := r1.length.symm
  show wpAny _ _ (call (.ref C) us) _ _ _
  obtain ⟨hp, g', dr, tk, os⟩ := s1
  have hsz : hp.objs.size ≤ hp.objs.size + 1 := Nat.le_succ _
  have hn : H1 (hp.objs.size + 1) = none := I1.hok.fresh hsz
  have kk : ∀ b o, hp.get? b = some o → ((hp.push (PySem.W.kdv_tup us)).push (PySem.HandSPX.excO C hp.objs.size)).get? b = some o := fun b o e => Heap.get?_push_of_some _ (Heap.get?_push_of_some _ e)
  have hget : ((hp.push (PySem.W.kdv_tup us)).push (PySem.HandSPX.excO C hp.objs.size)).get? (hp.objs.size + 1) = some (PySem.HandSPX.excO C hp.objs.size) := by heap_get
  have I2 : Inv X pins σ (upd H1 (hp.objs.size + 1) (exo (hp.objs.size + 1) C none)) ⟨(hp.push (PySem.W.kdv_tup us)).push (PySem.HandSPX.excO C hp.objs.size), g', dr, tk, os⟩ :=
    I1.laid (t' := tk) (a := hp.objs.size + 1) (o := exo (hp.objs.size + 1) C none) (h' := (hp.push (PySem.W.kdv_tup us)).push (PySem.HandSPX.excO C hp.objs.size)) kk hsz (L2.exo_ok hget)
  have r2 : Vals [V.ref (hp.objs.size + 1), y, z] (Value.ref (hp.objs.size + 1) :: us) := .cons rfl r1
  have b2 := hb ⟨(hp.push (PySem.W.kdv_tup us)).push (PySem.HandSPX.excO C hp.objs.size), g', dr, tk, os⟩ (.ref (hp.objs.size + 1) :: us) I2.kIn (by rw [List.append_nil, List.length_cons, hus, hl3])
  rw [List.append_nil] at b2
  refine wpAny_call (kw_own F.excBase_ValueError (fun Y => PySem.HandSPX.refsVE_contains Y bm hbm) (I1.kIn _ _ hC) (PySem.W.looks_findIn I1.kIn T.iC) (fun self => PySem.W.bind_fn I1.kIn self T.tI) (by rw [hus, sizeLine_eq]; omega)
    (codeAny_mono (F1.run _ X.stack _ _ ⟨Value.ref (hp.objs.size + 1) :: us, []⟩ (Value.ref (hp.objs.size + 1) :: us) _
      (fun v H2 => v = .non ∧ ∃ d, H1 d = none ∧ d ≠ hp.objs.size + 1 ∧ H2 = upd (upd H1 d (exd d [(g, z), (f, y)])) (hp.objs.size + 1) (exo (hp.objs.size + 1) C (some d))) (fun _ _ _ => False) (hr.make C us []) (I2.env0.make C us []) b2 r2
      ⟨_, y, z, rfl, upd_same, fun d hd nd => ⟨rfl, d, by rw [upd_ne nd] at hd; exact hd, nd, upd3 nd⟩⟩) fun r s' hq' => ?_))
  cases r with
  | error er => exact hx pins σ _ _ er s' I2 hq'
  | ok fl =>
    cases fl with
    | ret u =>
      obtain ⟨v, H2, os2, bare2, un2, hok2, rv, ev, d, hd1, nd, eH⟩ := hq'
      subst ev
      obtain ⟨h2, g2, d2, t2, os'⟩ := s'
      have ea : H2 (hp.objs.size + 1) = some (exo (hp.objs.size + 1) C (some d)) := by rw [eH, upd_same]
      have ed : H2 d = some (exd d [(g, z), (f, y)]) := by rw [eH, upd_ne nd, upd_same]
      obtain ⟨t0, G, J, kG, ge, hoe, na⟩ := mk_end0 (d2 := d2) (t2 := t2) I1 hsz kk un2 hok2 os2 bare2 ea ed hd1
      have eq : upd (del H2 (hp.objs.size + 1)) d (.xd [(g, z), (f, y)]) = upd H1 d (.xd [(g, z), (f, y)]) := by
        funext b
        by_cases h1 : b = d
        · rw [h1, upd_same, upd_same]
        · rw [upd_ne h1, upd_ne h1]
          by_cases h2 : b = hp.objs.size + 1
          · rw [h2, del_same, hn]
          · rw [del_ne h2, eH, upd_ne h2, upd_ne h1]
      rw [eq] at J na
      refine ⟨rv, hp.objs.size + 1, _, _, ⟨G, g2, d2, t2, os'⟩, _, .ref C, some d, rfl, J, kG, ge, hoe, ⟨rfl, rfl, fun vs hv => ?_⟩, rfl, rfl, na, rfl, bare2, T.rs, q1 d hd1⟩
      cases hv
      rfl
    | next => exact False.elim hq'
    | brk => exact False.elim hq'
    | cont => exact False.elim hq'
end
/-! ### over the data: values -/
section
variable {K : PySem.W.Frag} {F F' H H' : Hp} {θ θ' : List Addr} {O : Sto}
theorem lookC {α : Type} (f g : Str) (y : α) (fs : List (Str × α)) : ((f, y) :: fs).lookup g = if g = f then some y else fs.lookup g := by
  by_cases h : g = f
  · subst h
    simp [List.lookup]
  · have e : (g == f) = false := by simpa using h
    simp [List.lookup, h, e]
theorem FsR.look {vs : List (Str × V)} {fs : List (Str × W)} (h : FsR K F θ vs fs) {n : Str} {w : W} (e : fs.lookup n = some w) : ∃ v, vs.lookup n = some v ∧ RW K F θ v w := by
  induction h with
  | nil => cases e
  | @cons p q vs fs r _ ih =>
    obtain ⟨n1, v1⟩ := p
    obtain ⟨n2, w2⟩ := q
    obtain ⟨en, r⟩ := r
    dsimp only at en r
    subst en
    rw [lookC] at e ⊢
    by_cases h : n = n1
    · rw [if_pos h] at e ⊢
      cases e
      exact ⟨v1, rfl, r⟩
    · rw [if_neg h] at e ⊢
      exact ih e
theorem Jn.newX0 (j : Jn K F H θ O) {p C : Addr} (h : H p = none) : Jn K F (L2.upd H p (ExO (.ref C) p)) (θ ++ [p]) (O ++ [.exc C]) := j.newC h ⟨j.freeF h, upd_same⟩
theorem Jn.newXd (j : Jn K F H θ O) {p : Addr} {vs : List (Str × V)} {fs : List (Str × W)} (h : H p = none) (r : FsR K F θ vs fs) : Jn K F (L2.upd H p (.xd vs)) (θ ++ [p]) (O ++ [.xd fs]) := j.newC h ⟨j.freeF h, vs, upd_same, r.mono Gr.push⟩
theorem Jn.newXi (j : Jn K F H θ O) {a d C : Addr} {vs : List (Str × V)} {fs : List (Str × W)} (ha : H a = none) (hd : H d = none) (n : d ≠ a) (r : FsR K F θ vs fs) :
    Jn K F (L2.upd (L2.upd H d (exd d vs)) a (exo a C (some d))) (θ ++ [d] ++ [a]) (O ++ [.exf fs] ++ [.exr C O.length]) := by
  have j1 : Jn K F (L2.upd H d (exd d vs)) (θ ++ [d]) (O ++ [.exf fs]) := j.newC hd ⟨j.freeF hd, vs, upd_same, r.mono Gr.push⟩
  refine j1.newC (by rw [upd_ne (Ne.symm n)]; exact ha) ⟨j1.freeF (by rw [upd_ne (Ne.symm n)]; exact ha), d, ?_, upd_same⟩
  rw [← j.len]
  simp
end
def clsV : W → Option Value
  | .ref a => some (.ref a)
  | .ty n => some (.type n)
  | _ => none
theorem clsV_ok {K : PySem.W.Frag} {F : Hp} {θ : List Addr} {v : V} {w : W} {cv : Value} (r : RW K F θ v w) (h : clsV w = some cv) : ∀ u, RelV v u → u = cv := by
  cases w <;> (first | (exfalso; revert h; simp [clsV]; done) | skip)
  · cases r
    cases h
    exact fun u e => e
  · cases r
    cases h
    exact fun u e => e
/-- an exception that the program holds: its class -/
def XcAt (O : Sto) (k : Nat) (D : Addr) : Prop := O[k]? = some (.exc D) ∨ ∃ j fs, O[k]? = some (.exr D j) ∧ O[j]? = some (.exf fs)
theorem XcAt.ok {K : PySem.W.Frag} {F H : Hp} {θ : List Addr} {O : Sto} {k : Nat} {D a : Addr} (h : XcAt O k D) (j : Jn K F H θ O) (ha : θ[k]? = some a) : H a = some (ExO (.ref D) a) ∨ ∃ d fs, H a = some (exo a D (some d)) ∧ H d = some (exd d fs) := by
  rcases h with h | ⟨i, fs, h1, h2⟩
  · exact .inl (show F a = none ∧ H a = some (ExO (.ref D) a) from j.ok k a _ ha h).2
  · obtain ⟨_, d, hd, e⟩ := (show F a = none ∧ ∃ d, θ[i]? = some d ∧ H a = some (exo a D (some d)) from j.ok k a _ ha h1)
    obtain ⟨_, vs, e2, _⟩ := (show F d = none ∧ ∃ vs, H d = some (exd d vs) ∧ FsR K F θ vs fs from j.ok i d _ hd h2)
    exact .inr ⟨d, vs, e, e2⟩
def rdIsO (K : PySem.W.Frag) : RCD := fun ws O S => ∃ k D c cv b, ws = [.cell k, c] ∧ XcAt O k D ∧ XC K D ∧ clsV c = some cv ∧ PySem.W.kitOne K (.ref D) cv = some b ∧ S (.bl b) O
theorem src_isO {K : PySem.W.Frag} : SRC K (rIsO K) (rdIsO K) := by
  intro F H θ O vs ws S j r q Q k
  obtain ⟨i, D, c, cv, b, rfl, hx, xc, hc, e, q⟩ := q
  obtain ⟨v, u, rfl, rv, ru⟩ := r.two_inv
  obtain ⟨a, rfl, ha⟩ := rv.cell_inv
  exact ⟨a, D, u, cv, b, rfl, hx.ok j ha, xc, clsV_ok ru hc, e, k _ _ F H θ O Gr.refl j (.bl b) q⟩
/-- of the exception that a suite holds -/
def rdIsC (K : PySem.W.Frag) (a : Addr) (cls : Value) (d : Option Addr) : RCD := fun ws O S => ∃ D dk c cv b, cls = .ref D ∧ ws = [.xr a d dk, c] ∧ (dk = none ∨ ∃ j fs, dk = some j ∧ O[j]? = some (.xd fs)) ∧ XC K D ∧ clsV c = some cv ∧ PySem.W.kitOne K (.ref D) cv = some b ∧ S (.bl b) O
def rIsD (K : PySem.W.Frag) (a : Addr) (cls : Value) (d : Option Addr) : List V → Hp → VK → Prop := fun xs H Q => ∃ (D : Addr) (c : V) (cv : Value) (b : Bool), cls = .ref D ∧ xs = [.ref a, c] ∧ (d = none ∨ ∃ dd fs, d = some dd ∧ H dd = some (.xd fs)) ∧ XC K D ∧ (∀ u, RelV c u → u = cv) ∧ PySem.W.kitOne K (.ref D) cv = some b ∧ Q (.bl b) H
theorem call_isD {X : Cx} {a : Addr} {cls : Value} {d : Option Addr} {oe : Obj} {pn : List (Addr × Obj)} (hz : Zc cls d oe) (hf : ∃ vs, oe.data = .fields vs) : CallR (X.suite a ((a, oe) :: pn)) (.builtin "isinstance") (rIsD X.K a cls d) := by
  intro pins s σ H xs us Q I r h
  obtain ⟨D, c, cv, b, rfl, rfl, ho, C, hcv, e, q⟩ := h
  cases r with
  | cons rx rr =>
    cases rr with
    | cons rt rr =>
      cases rr
      cases rx
      have ec := hcv _ rt
      subst ec
      obtain ⟨hget, _⟩ := I.pin (a, oe) (List.mem_append.mpr (.inl List.mem_cons_self))
      obtain ⟨vs, hv⟩ := hf
      obtain ⟨oc, od, oda, osl⟩ := oe
      obtain ⟨h1, h2⟩ := hz
      dsimp only at h1 h2 hv
      subst h1 h2 hv
      have J : ∃ ox od', PySem.W.InstAt s.heap a ox D od' := by
        rcases ho with rfl | ⟨dd, fs, rfl, h3⟩
        · exact ⟨_, none, hget, rfl, rfl, trivial⟩
        · obtain ⟨mA, hns, hr⟩ := (show ∃ mA, s.heap.Ns1 dd mA ∧ ∀ f, RelO (fs.lookup f) (mA f) from I.hok dd _ h3)
          obtain ⟨od', hod, _⟩ := lookIn_ns hns
          exact ⟨_, some od', hget, rfl, rfl, hod⟩
      obtain ⟨ox, od', J⟩ := J
      exact PySem.W.kia_one (PySem.W.kitx_exc (ox := ox) (od := od') C.cl C.ga C.gg C.sb C.ca C.sp C.tk C.mr) I.kIn J e (fun z => nomatch z) fun tk => ⟨.bl b, H, I.kept (t' := tk) fun _ _ z => z, rfl, q⟩
theorem src_isD {K : PySem.W.Frag} {a : Addr} {cls : Value} {d : Option Addr} : SRC K (rIsD K a cls d) (rdIsC K a cls d) := by
  intro F H θ O vs ws S j r q Q k
  obtain ⟨D, dk, c, cv, b, hcl, rfl, hx, xc, hc, e, q⟩ := q
  obtain ⟨v, u, rfl, rv, ru⟩ := r.two_inv
  cases rv with
  | xr hd =>
    refine ⟨D, u, cv, b, hcl, rfl, ?_, xc, clsV_ok ru hc, e, k _ _ F H θ O Gr.refl j (.bl b) q⟩
    rcases hx with rfl | ⟨i, fs, rfl, hx⟩
    · cases d with
      | none => exact .inl rfl
      | some z => exact hd.elim
    · cases d with
      | none => exact hd.elim
      | some z =>
        obtain ⟨_, vs, e2, _⟩ := (show F z = none ∧ ∃ vs, H z = some (.xd vs) ∧ FsR K F θ vs fs from j.ok i z _ hd hx)
        exact .inr ⟨z, vs, rfl, e2⟩
/-- o.n of an exception that the program holds -/
def dXo (K : PySem.W.Frag) (n : Str) (we : DE) : DE := fun δ O S => we δ O fun w O1 => ∃ k j C fs v, w = .cell k ∧ O1[k]? = some (.exr C j) ∧ O1[j]? = some (.exf fs) ∧ XC K C ∧ PySem.W.findIn K (.ref C) n = some none ∧ fs.lookup n = some v ∧ S v O1
/-- .. of the one that a suite holds -/
def dXf (K : PySem.W.Frag) (a : Addr) (cls : Value) (d : Option Addr) (C : Addr) (n : Str) (we : DE) : DE := fun δ O S => we δ O fun w O1 => ∃ j fs v, w = .xr a d (some j) ∧ cls = .ref C ∧ O1[j]? = some (.xd fs) ∧ fs.lookup n = some v ∧ S v O1
section
variable {X : Cx} {e : Expr} {es : List Expr} {we : DE} {wa : DA} {n x f g : Str} {p pos : Pos} {C fI : Addr} {k : Nat} {fd : FuncData} {ps : List Str}
theorem ed_xo (h : ED X e we) (hb : attributeBase e n X.env (eval e X.env) = eval e X.env := by rfl) : ED X (.Attribute e n pos) (dXo X.K n we) := by
  obtain ⟨t, p, s⟩ := h.ex
  refine ⟨_, pe_xo p hb, fun F H θ O σ δ S j s' q Q kk => ?_⟩
  refine s F H θ O σ δ _ j s' q _ fun v w F1 H1 θ1 O1 g1 j1 r1 q1 => ?_
  obtain ⟨k, i, C, fs, z, rfl, h1, h2, xc, hno, hl, q1⟩ := q1
  obtain ⟨a, rfl, ha⟩ := r1.cell_inv
  obtain ⟨_, d, hd, ea⟩ := (show F1 a = none ∧ ∃ d, θ1[i]? = some d ∧ H1 a = some (exo a C (some d)) from j1.ok k a _ ha h1)
  obtain ⟨_, vs, ed, fr⟩ := (show F1 d = none ∧ ∃ vs, H1 d = some (exd d vs) ∧ FsR X.K F1 θ1 vs fs from j1.ok i d _ hd h2)
  obtain ⟨y, hy, ry⟩ := fr.look hl
  exact ⟨a, C, d, vs, y, rfl, xc, hno, ea, ed, hy, kk _ _ F1 H1 θ1 O1 g1 j1 ry q1⟩
theorem ed_xf {a : Addr} {cls : Value} {d : Option Addr} {oe : Obj} {pn : List (Addr × Obj)} (T : XC X.K C) (hno : PySem.W.findIn X.K (.ref C) n = some none) (hz : Zc cls d oe) (hf : ∃ vs, oe.data = .fields vs)
    (h : ED (X.suite a ((a, oe) :: pn)) e we) (hb : attributeBase e n X.env (eval e X.env) = eval e X.env := by rfl) : ED (X.suite a ((a, oe) :: pn)) (.Attribute e n pos) (dXf X.K a cls d C n we) := by
  obtain ⟨t, p, s⟩ := h.ex
  refine ⟨_, pe_xf ⟨T.ga, T.gg, T.sb, T.hd⟩ hno hz hf p hb, fun F H θ O σ δ S j s' q Q kk => ?_⟩
  refine s F H θ O σ δ _ j s' q _ fun v w F1 H1 θ1 O1 g1 j1 r1 q1 => ?_
  obtain ⟨i, fs, z, rfl, hc, h1, hl, q1⟩ := q1
  cases r1 with
  | xr hd =>
    cases d with
    | none => exact hd.elim
    | some dd =>
      obtain ⟨_, vs, e2, fr⟩ := (show F1 dd = none ∧ ∃ vs, H1 dd = some (.xd vs) ∧ FsR X.K F1 θ1 vs fs from j1.ok i dd _ hd h1)
      obtain ⟨y, hy, ry⟩ := fr.look hl
      exact ⟨rfl, hc, dd, vs, y, rfl, e2, hy, kk _ _ F1 H1 θ1 O1 g1 j1 ry q1⟩
def dX0 (C : Addr) (wa : DA) : DE := fun δ O S => wa δ O fun ws O1 => ws.length ≤ sizeLine ∧ S (.cell O1.length) (O1 ++ [.exc C])
theorem ed_x0 (T : XC0 X.K C) (gC : X.mg x = some (.ref C)) (hg : Gl X x) (ha : EDA X (e :: es) wa) (hdb : (x == ("__debug__" : Str)) = false := by decide)
    (he : starEach (e :: es) X.env = (false, eval e X.env) :: starEach es X.env := by rfl) (hpl : (backTo pos (starEach es X.env)).any (·.1) = false := by rfl) : ED X (.Call (.Name x p) (e :: es) [] pos) (dX0 C wa) := by
  obtain ⟨t, p, s⟩ := ha.ex
  refine ⟨_, pe_x0 T gC hg p hdb he hpl, fun F H θ O σ δ S j s' q Q kk => ?_⟩
  refine s F H θ O σ δ _ j s' q _ fun vs ws F1 H1 θ1 O1 g1 j1 r1 q1 => ⟨by rw [r1.length]; exact q1.1, fun a ha => ?_⟩
  exact kk _ _ _ _ _ _ (g1.trans Gr.push) (j1.newX0 ha) (.cell (by rw [← j1.len]; simp)) q1.2
def dXi (C : Addr) (f g : Str) (wa : DA) : DE := fun δ O S => wa δ O fun ws O1 => ∃ y z, ws = [y, z] ∧ S (.cell (O1.length + 1)) (O1 ++ [.exf [(g, z), (f, y)]] ++ [.exr C O1.length])
theorem fsR2 {K : PySem.W.Frag} {F : Hp} {θ : List Addr} {y z : V} {yw zw : W} (ry : RW K F θ y yw) (rz : RW K F θ z zw) : FsR K F θ [(g, z), (f, y)] [(g, zw), (f, yw)] := .cons ⟨rfl, rz⟩ (.cons ⟨rfl, ry⟩ .nil)
theorem ed_xi {CX : CXT} (T : XCI X.K C fI) (F1 : FnOk X.prog X.w X.K X.mg X.base CX k fI fd ps (spIni C f g)) (hr : Room (k + 1) X.A) (hx : Passes CX X (fun _ _ _ => False)) (hb : Binds X.K fd ps []) (hl : ps.length = 3)
    (gC : X.mg x = some (.ref C)) (hg : Gl X x) (ha : EDA X (e :: es) wa) (hdb : (x == ("__debug__" : Str)) = false := by decide)
    (he : starEach (e :: es) X.env = (false, eval e X.env) :: starEach es X.env := by rfl) (hpl : (backTo pos (starEach es X.env)).any (·.1) = false := by rfl) : ED X (.Call (.Name x p) (e :: es) [] pos) (dXi C f g wa) := by
  obtain ⟨t, p, s⟩ := ha.ex
  refine ⟨_, pe_xi T F1 hr hx hb hl gC hg p hdb he hpl, fun F H θ O σ δ S j s' q Q kk => ?_⟩
  refine s F H θ O σ δ _ j s' q _ fun vs ws F1 H1 θ1 O1 g1 j1 r1 q1 => ?_
  obtain ⟨y, z, rfl, q1⟩ := q1
  obtain ⟨yv, zv, rfl, ry, rz⟩ := r1.two_inv
  refine ⟨yv, zv, rfl, fun a d hd ha n => ?_⟩
  refine kk _ _ _ _ _ _ ((g1.trans Gr.push).trans Gr.push) (j1.newXi ha hd n (fsR2 ry rz)) (.cell ?_) q1
  rw [← j1.len]
  simp
def dXik (C : Addr) (f g : Str) (tl : List W → List W) (wa : DA) : DE := fun δ O S => wa δ O fun ws O1 => ∃ y z, tl ws = [y, z] ∧ S (.cell (O1.length + 1)) (O1 ++ [.exf [(g, z), (f, y)]] ++ [.exr C O1.length])
theorem ed_xik {CX : CXT} {kws : List Keyword} {ks : List Str} {gV : List V → List V → List V} {gU : List Value → List Value → List Value} {tlV : List V → List V} {tlU : List Value → List Value} {tlW : List W → List W} (T : XCI X.K C fI) (F1 : FnOk X.prog X.w X.K X.mg X.base CX k fI fd ps (spIni C f g)) (hr : Room (k + 1) X.A)
    (hx : Passes CX X (fun _ _ _ => False)) (hl : ps.length = 3) (hb : KBinds X.K fd ps ks gU gV) (gC : X.mg x = some (.ref C)) (hg : Gl X x) (hkw : EDK X kws wa) (hgu : ∀ a ws, gU [a] ws = a :: tlU ws) (hgv : ∀ a ws, gV [a] ws = a :: tlV ws)
    (htl : ∀ F θ vs ws y z, RWs X.K F θ vs ws → tlW ws = [y, z] → ∃ yv zv, tlV vs = [yv, zv] ∧ RW X.K F θ yv y ∧ RW X.K F θ zv z)
    (hall : (backToKw pos (keywordEach kws X.env)).all (·.1.isSome) = true := by rfl) (hks : (backToKw pos (keywordEach kws X.env)).filterMap (·.1) = ks := by rfl) (hdb : (x == ("__debug__" : Str)) = false := by decide)
    (hpl : ((backTo pos (starEach [] X.env)).any (·.1) || (backToKw pos (keywordEach kws X.env)).any (·.1.isNone)) = false := by rfl) :
    ED X (.Call (.Name x p) [] kws pos) (dXik C f g tlW wa) := by
  obtain ⟨t, p, s⟩ := hkw.ex
  refine ⟨_, pe_xik T F1 hr hx hl hb gC hg p hgu hgv hall hks hdb hpl, fun F H θ O σ δ S j s' q Q kk => ?_⟩
  refine s F H θ O σ δ _ j s' q _ fun vs ws F1 H1 θ1 O1 g1 j1 r1 q1 => ?_
  obtain ⟨y, z, ht, q1⟩ := q1
  obtain ⟨yv, zv, e, ry, rz⟩ := htl _ _ _ _ _ _ r1 ht
  refine ⟨yv, zv, e, fun a d hd ha n => ?_⟩
  refine kk _ _ _ _ _ _ ((g1.trans Gr.push).trans Gr.push) (j1.newXi ha hd n (fsR2 ry rz)) (.cell ?_) q1
  rw [← j1.len]
  simp
theorem ed_gref (hg : Gl X x) (hm : X.mg x = some (.ref C)) (hd : (x == ("__debug__" : Str)) = false := by decide) : ED X (.Name x pos) (dC (.ref C)) := ⟨_, pe_glob (v := .ref C) hg hm rfl hd, SE.pure fun _ _ => .ref C⟩
end

/-! ### over the data: statements that may raise -/
structure DEndsX extends DEnds where
  ex : Value → Option Nat → DS → Sto → Prop := fun _ _ _ _ => False
abbrev DTX := DEndsX → DS → Sto → Prop
structure LkX (K : PySem.W.Frag) (F : Hp) (θ : List Addr) (D : DEndsX) (D' : Ends) (W : WX) : Prop extends Lk K F θ D.toDEnds D' where
  ex : ∀ F' H' θ' O' σ δ cls dk d, Gr F θ F' θ' → Jn K F' H' θ' O' → RS K F' θ' σ δ → dkR θ' dk d → D.ex cls dk δ O' → W cls d σ H'
theorem LkX.mono {K : PySem.W.Frag} {F F1 : Hp} {θ θ1 : List Addr} {D : DEndsX} {D' : Ends} {W : WX} (l : LkX K F θ D D' W) (g : Gr F θ F1 θ1) : LkX K F1 θ1 D D' W :=
  ⟨l.toLk.mono g, fun F' H' θ' O' σ δ cls dk d g2 => l.ex F' H' θ' O' σ δ cls dk d (g.trans g2)⟩
def SSX (K : PySem.W.Frag) (W : WX) (ts : TS) (ws : DTX) : Prop := ∀ F H θ O σ δ D D', Jn K F H θ O → RS K F θ σ δ → ws D δ O → LkX K F θ D D' W → ts D' σ H
structure EDX (X : Cx) (W : WX) (st : Stmt) (ws : DTX) : Prop where
  ex : ∃ ts, PS X st ts ∧ SSX X.K W ts ws
structure EDXB (X : Cx) (W : WX) (st : List Stmt) (ws : DTX) : Prop where
  ex : ∃ ts, PSs X st ts ∧ SSX X.K W ts ws
def dxOf (ws : DTS) : DTX := fun D δ O => ws D.toDEnds δ O
def dxSeq (w1 w2 : DTX) : DTX := fun D δ O => w1 { D with nx := w2 D } δ O
def dxIf (wt : DT) (w1 w2 : DTX) : DTX := fun D δ O => wt δ O fun b O1 => if b = true then w1 D δ O1 else w2 D δ O1
abbrev DM := DS → Sto → (Value → Option Nat → Sto → Prop) → Prop
def SM (K : PySem.W.Frag) (t : L2.St → Hp → XK → Prop) (wm : DM) : Prop := ∀ F H θ O σ δ S, Jn K F H θ O → RS K F θ σ δ → wm δ O S → ∀ Q : XK,
  (∀ cls dk d F' H' θ' O', Gr F θ F' θ' → Jn K F' H' θ' O' → dkR θ' dk d → S cls dk O' → Q cls d H') → t σ H Q
structure EDM (X : Cx) (e : Expr) (wm : DM) : Prop where
  ex : ∃ t, L2N.PMk X e t ∧ SM X.K t wm
def dRaise (wm : DM) : DTX := fun D δ O => wm δ O fun cls dk O1 => D.ex cls dk δ O1
def dM0 (C : Addr) (wa : DA) : DM := fun δ O S => wa δ O fun ws O1 => ws.length ≤ sizeLine ∧ S (.ref C) none O1
def dMi (C : Addr) (f g : Str) (wa : DA) : DM := fun δ O S => wa δ O fun ws O1 => ∃ y z, ws = [y, z] ∧ S (.ref C) (some O1.length) (O1 ++ [.xd [(g, z), (f, y)]])
section
variable {X : Cx} {W : WX} {st : Stmt} {rest : List Stmt} {ws : DTS} {w1 w2 : DTX} {wt : DT} {wm : DM} {wa : DA} {c e : Expr} {es : List Expr} {pos p : Pos} {x f g : Str} {C fI : Addr} {k : Nat} {fd : FuncData} {ps : List Str}
theorem es_x (h : EDS X st ws) : EDX X W st (dxOf ws) := by
  obtain ⟨t, p, s⟩ := h.ex
  exact ⟨t, p, fun F H θ O σ δ D D' j s' q l => s F H θ O σ δ _ D' j s' q l.toLk⟩
theorem eb_x (h : EDB X rest ws) : EDXB X W rest (dxOf ws) := by
  obtain ⟨t, p, s⟩ := h.ex
  exact ⟨t, p, fun F H θ O σ δ D D' j s' q l => s F H θ O σ δ _ D' j s' q l.toLk⟩
theorem exb_one (h : EDX X W st w1) : EDXB X W [st] w1 := by
  obtain ⟨t1, p1, s1⟩ := h.ex
  exact ⟨_, pss_one p1, s1⟩
theorem exb_cons (h : EDX X W st w1) (hr : EDXB X W rest w2) : EDXB X W (st :: rest) (dxSeq w1 w2) := by
  obtain ⟨t1, p1, s1⟩ := h.ex
  obtain ⟨t2, p2, s2⟩ := hr.ex
  refine ⟨_, pss_cons p1 p2, fun F H θ O σ δ D D' j s q l => ?_⟩
  exact s1 F H θ O σ δ _ _ j s q ⟨⟨fun F' H' θ' O' σ' δ' g j' s' q' => s2 F' H' θ' O' σ' δ' D D' j' s' q' (l.mono g), l.rt, l.bk, l.ct⟩, l.ex⟩
theorem ex_if {a b : List Stmt} (hc : EDT X c wt) (ha : EDXB X W a w1) (hb : EDXB X W b w2) : EDX X W (.If c a b pos) (dxIf wt w1 w2) := by
  obtain ⟨t0, p0, s0⟩ := hc.ex
  obtain ⟨t1, p1, s1⟩ := ha.ex
  obtain ⟨t2, p2, s2⟩ := hb.ex
  refine ⟨_, ps_if p0 p1 p2, fun F H θ O σ δ D D' j s q l => ?_⟩
  refine s0 F H θ O σ δ _ j s q _ fun b F1 H1 θ1 O1 g1 j1 q1 => ?_
  cases b with
  | true => exact s1 F1 H1 θ1 O1 σ δ D D' j1 (s.mono g1) q1 (l.mono g1)
  | false => exact s2 F1 H1 θ1 O1 σ δ D D' j1 (s.mono g1) q1 (l.mono g1)
theorem ex_raise (hc : X.calm = true) (tk : L2N.Takes X W) (h : EDM X e wm) : EDX X W (.Raise (some e) none pos) (dRaise wm) := by
  obtain ⟨t0, p0, s0⟩ := h.ex
  refine ⟨_, L2N.ps_raise hc tk p0, fun F H θ O σ δ D D' j s q l => ?_⟩
  exact s0 F H θ O σ δ _ j s q _ fun cls dk d F1 H1 θ1 O1 g1 j1 r1 q1 => l.ex F1 H1 θ1 O1 σ δ cls dk d g1 j1 (s.mono g1) r1 q1
theorem em_x0 (T : XC0 X.K C) (gC : X.mg x = some (.ref C)) (hg : Gl X x) (ha : EDA X (e :: es) wa) (hdb : (x == ("__debug__" : Str)) = false := by decide)
    (he : starEach (e :: es) X.env = (false, eval e X.env) :: starEach es X.env := by rfl) (hpl : (backTo pos (starEach es X.env)).any (·.1) = false := by rfl) : EDM X (.Call (.Name x p) (e :: es) [] pos) (dM0 C wa) := by
  obtain ⟨t, p, s⟩ := ha.ex
  refine ⟨_, pmk_x0 T gC hg p hdb he hpl, fun F H θ O σ δ S j s' q Q kk => ?_⟩
  exact s F H θ O σ δ _ j s' q _ fun vs ws F1 H1 θ1 O1 g1 j1 r1 q1 => ⟨by rw [r1.length]; exact q1.1, kk _ none none _ _ _ _ g1 j1 True.intro q1.2⟩
theorem em_xi {CX : CXT} (T : XCI X.K C fI) (F1 : FnOk X.prog X.w X.K X.mg X.base CX k fI fd ps (spIni C f g)) (hr : Room (k + 1) X.A) (hx : Passes CX X (fun _ _ _ => False)) (hb : Binds X.K fd ps []) (hl : ps.length = 3)
    (gC : X.mg x = some (.ref C)) (hg : Gl X x) (ha : EDA X (e :: es) wa) (hdb : (x == ("__debug__" : Str)) = false := by decide)
    (he : starEach (e :: es) X.env = (false, eval e X.env) :: starEach es X.env := by rfl) (hpl : (backTo pos (starEach es X.env)).any (·.1) = false := by rfl) : EDM X (.Call (.Name x p) (e :: es) [] pos) (dMi C f g wa) := by
  obtain ⟨t, p, s⟩ := ha.ex
  refine ⟨_, pmk_xi T F1 hr hx hb hl gC hg p hdb he hpl, fun F H θ O σ δ S j s' q Q kk => ?_⟩
  refine s F H θ O σ δ _ j s' q _ fun vs ws F1 H1 θ1 O1 g1 j1 r1 q1 => ?_
  obtain ⟨y, z, rfl, q1⟩ := q1
  obtain ⟨yv, zv, rfl, ry, rz⟩ := r1.two_inv
  refine ⟨yv, zv, rfl, fun d hd => ?_⟩
  refine kk (.ref C) (some O1.length) (some d) _ _ _ _ (g1.trans Gr.push) (j1.newXd hd (fsR2 ry rz)) ?_ q1
  show (θ1 ++ [d])[O1.length]? = some d
  rw [← j1.len]
  simp
end

/-! ### try -/
theorem takesN0 {X : Cx} : L2N.Takes X (fun _ _ _ _ => False) := fun _ _ x => by
  obtain ⟨_, _, _, _, _, _, _, _, _, _, _, _, _, _, _, _, z⟩ := x
  exact z.elim
def dHs (K : PySem.W.Frag) (D : DEnds) : List (Value × DTS) → Value → DS → Sto → Prop
  | [], _, _, _ => False
  | (c, ws) :: r, cls, δ, O => ∃ b, PySem.W.exmOne K cls c = some b ∧ if b = true then ws D δ O else dHs K D r cls δ O
def dTry (K : PySem.W.Frag) (wb : DTX) (l : List (Value × DTS)) : DTS := fun D δ O => wb { D with ex := fun cls _ δ O => dHs K D l cls δ O } δ O
/-- the clauses: a class each, no name -/
inductive EHs (X : Cx) : List ExceptHandler → List (Value × DTS) → Prop
  | nil : EHs X [] []
  | cons {x : Str} {c : Value} {ws : DTS} {b₀ : Stmt} {suite : List Stmt} {np pos' : Pos} {hds : List ExceptHandler} {l : List (Value × DTS)} (hc : Names X x c)
      (hsu : ∀ (a : Addr) (oe : Obj) (pn : List (Addr × Obj)), EDB (X.suite a ((a, oe) :: pn)) (b₀ :: suite) ws) (r : EHs X hds l) :
      EHs X (.ExceptHandler (some (.Name x np)) none (b₀ :: suite) pos' :: hds) ((c, ws) :: l)
theorem EHs.hds {X : Cx} {hds : List ExceptHandler} {l : List (Value × DTS)} (h : EHs X hds l) : ∃ l', L2N.HdsOk X hds l' ∧ ∀ F H θ O σ δ D D' cls d, Jn X.K F H θ O → RS X.K F θ σ δ → Lk X.K F θ D D' → dHs X.K D l cls δ O → wMany X.K (fun _ _ _ _ => False) D' l' cls d σ H := by
  induction h with
  | nil => exact ⟨[], .nil, fun F H θ O σ δ D D' cls d j s lk h => h⟩
  | @cons x c ws b₀ suite np pos' hds l hc hsu r ih =>
    obtain ⟨l', h1, h2⟩ := ih
    refine ⟨(c, fun a cls d => fun D σ H => ∀ oe pn, Classical.choose (hsu a oe pn).ex D σ H) :: l', .cons hc (fun a oe cls d pn _ _ => ⟨fun pins s σ H D I hw => (Classical.choose_spec (hsu a oe pn).ex).1.run pins s σ H D I (hw oe pn)⟩) h1,
      fun F H θ O σ δ D D' cls d j s lk h => ?_⟩
    obtain ⟨b, hb, h⟩ := h
    refine ⟨b, hb, fun e a _ oe pn => ?_, fun e => ?_⟩
    · rw [if_pos e] at h
      exact (Classical.choose_spec (hsu a oe pn).ex).2 F H θ O σ δ D D' j s h lk
    · rw [if_neg (by rw [e]; simp)] at h
      exact h2 F H θ O σ δ D D' cls d j s lk h
section
variable {X : Cx} {body : List Stmt} {h₀ : ExceptHandler} {hds : List ExceptHandler} {l : List (Value × DTS)} {pos : Pos} {wb : DTX}
theorem uni_b (hb : ∀ (W : WX) (pn : List (Addr × Obj)) (xe : Value → Shared → Prop), L2N.Takes (X.tr pn xe) W → PassesOwn (model X.prog X.w) X.A X.env xe → EDXB (X.tr pn xe) W body wb) :
    ∃ tb : WX → TS, (∀ (W : WX) (pn : List (Addr × Obj)) (xe : Value → Shared → Prop), L2N.Takes (X.tr pn xe) W → PassesOwn (model X.prog X.w) X.A X.env xe → PSs (X.tr pn xe) body (tb W)) ∧ ∀ W, SSX X.K W (tb W) wb :=
  ⟨fun W => fun D σ H => ∀ pn xe (tk : L2N.Takes (X.tr pn xe) W) (po : PassesOwn (model X.prog X.w) X.A X.env xe), Classical.choose (hb W pn xe tk po).ex D σ H,
    fun W pn xe tk po => ⟨fun pins s σ H D I hw => (Classical.choose_spec (hb W pn xe tk po).ex).1.run pins s σ H D I (hw pn xe tk po)⟩,
    fun W F H θ O σ δ D D' j s q lk pn xe tk po => (Classical.choose_spec (hb W pn xe tk po).ex).2 F H θ O σ δ D D' j s q lk⟩
theorem es_try (hs : X.stack = X.env :: X.outer) (hf : X.env.frame = some X.env.locals)
    (hb : ∀ (W : WX) (pn : List (Addr × Obj)) (xe : Value → Shared → Prop), L2N.Takes (X.tr pn xe) W → PassesOwn (model X.prog X.w) X.A X.env xe → EDXB (X.tr pn xe) W body wb) (hh : EHs X (h₀ :: hds) l) :
    EDS X (.Try body (h₀ :: hds) [] [] pos) (dTry X.K wb l) := by
  obtain ⟨tb, p0, s0⟩ := uni_b hb
  obtain ⟨l', h1, h2⟩ := hh.hds
  refine ⟨_, L2N.ps_try_many hs hf takesN0 p0 h1, fun F H θ O σ δ D D' j s q lk => ?_⟩
  exact s0 _ F H θ O σ δ _ D' j s q ⟨lk, fun F' H' θ' O' σ' δ' cls dk d g j' s' _ h => h2 F' H' θ' O' σ' δ' D D' cls d j' s' (lk.mono g) h⟩
/-- except X as n -/
def endsAs (i : Nat) (D : DEnds) : DEnds := { nx := fun δ' O' => D.nx (δ'.set i none) O', rt := D.rt, bk := fun δ' O' => D.bk (δ'.set i none) O', ct := fun δ' O' => D.ct (δ'.set i none) O' }
def dAs (K : PySem.W.Frag) (c : Value) (i : Nat) (ws : Addr → Value → Option Addr → DTS) (D : DEnds) : Value → Option Nat → DS → Sto → Prop := fun cls dk δ O => PySem.W.exmOne K cls c = some true ∧ ∀ a d, ws a cls d (endsAs i D) (δ.set i (some (.xr a d dk))) O
def dTryAs (K : PySem.W.Frag) (wb : DTX) (c : Value) (i : Nat) (ws : Addr → Value → Option Addr → DTS) : DTS := fun D δ O => wb { D with ex := dAs K c i ws D } δ O
theorem RS.gone {K : PySem.W.Frag} {F : Hp} {θ : List Addr} {σ : L2.St} {δ : DS} (h : RS K F θ σ δ) (i : Nat) : RS K F θ (σ.set i none) (δ.set i none) := by
  refine ⟨by rw [List.length_set, List.length_set]; exact h.1, fun j w e => ?_⟩
  by_cases q : j = i
  · subst q
    by_cases hl : j < δ.length
    · rw [List.getElem?_set_self hl] at e
      cases e
    · rw [List.getElem?_eq_none (by rw [List.length_set]; omega)] at e
      cases e
  · rw [List.getElem?_set_ne (Ne.symm q)] at e ⊢
    exact h.2 j w e
theorem es_tryAs {x n : Str} {c : Value} {i : Nat} {suite : List Stmt} {b₀ : Stmt} {np pos' : Pos} {ws : Addr → Value → Option Addr → DTS} (hs : X.stack = X.env :: X.outer) (hf : X.env.frame = some X.env.locals) (hN : X.N.Nodup) (hi : X.N[i]? = some n) (hln : X.env.kindOf n = some .local) (hc : Names X x c)
    (hb : ∀ (W : WX) (pn : List (Addr × Obj)) (xe : Value → Shared → Prop), L2N.Takes (X.tr pn xe) W → PassesOwn (model X.prog X.w) X.A X.env xe → EDXB (X.tr pn xe) W body wb)
    (hsu : ∀ (a : Addr) (oe : Obj) (cls : Value) (d : Option Addr) (pn : List (Addr × Obj)), Zc cls d oe → (∃ vs, oe.data = .fields vs) → EDB (X.suite a ((a, oe) :: pn)) (b₀ :: suite) (ws a cls d)) :
    EDS X (.Try body [.ExceptHandler (some (.Name x np)) (some n) (b₀ :: suite) pos'] [] [] pos) (dTryAs X.K wb c i ws) := by
  obtain ⟨tb, p0, s0⟩ := uni_b hb
  refine ⟨_, L2N.ps_try_as (ts := fun a cls d => fun D σ H => ∀ oe pn (z : Zc cls d oe) (f : ∃ vs, oe.data = .fields vs), Classical.choose (hsu a oe cls d pn z f).ex D σ H) hs hf hN hi hln hc takesN0 p0
    (fun a oe cls d pn z f => ⟨fun pins s σ H D I hw => (Classical.choose_spec (hsu a oe cls d pn z.zc f).ex).1.run pins s σ H D I (hw oe pn z.zc f)⟩), fun F H θ O σ δ D D' j s q lk => ?_⟩
  refine s0 _ F H θ O σ δ _ D' j s q ⟨lk, fun F' H' θ' O' σ' δ' cls dk d g j' s' hd h => ⟨true, h.1, fun _ a _ oe pn z f => ?_, fun e => by cases e⟩⟩
  refine (Classical.choose_spec (hsu a oe cls d pn z f).ex).2 F' H' θ' O' _ _ _ _ j' (s'.set i (.xr hd)) (h.2 a d) ?_
  have lk' := lk.mono g
  exact ⟨fun F2 H2 θ2 O2 σ2 δ2 g2 j2 s2 q2 => lk'.nx F2 H2 θ2 O2 _ _ g2 j2 (s2.gone i) q2, lk'.rt, fun F2 H2 θ2 O2 σ2 δ2 g2 j2 s2 q2 => lk'.bk F2 H2 θ2 O2 _ _ g2 j2 (s2.gone i) q2, fun F2 H2 θ2 O2 σ2 δ2 g2 j2 s2 q2 => lk'.ct F2 H2 θ2 O2 _ _ g2 j2 (s2.gone i) q2⟩
end
/-- how a call with keywords binds, no defaults -/
theorem kbN {K : PySem.W.Frag} {x qual : Str} {params : Arguments} {body : List Stmt} {scope : Scope} {kws : List (Str × V)} {f : Addr} {fd : FuncData} {ps ks : List Str} {g : List Value → List Value → List Value} {gV : List V → List V → List V} (F : FunD K x qual params body scope [] kws f fd)
    (hrel : ∀ {vs : List V} {us : List Value} {zs : List V} {ws : List Value}, Vals vs us → Vals zs ws → Vals (gV vs zs) (g us ws))
    (h : ∀ (kV doc pm : Value) (an : Option Addr) (cdv ct : Value) (us ws : List Value), (g us ws).length = ps.length → bindArgs (PySem.W.fnOf x qual params body scope .none kV doc pm an cdv ct) ⟨us, ks.zip ws⟩ = pure (ps.zip (g us ws))) : KBinds K fd ps ks g gV := by
  obtain ⟨oc, od, dV, kV, doc, pm, an, cdv, ct, osl, rfl, lk, hcd, hD, hK⟩ := F.ex
  rcases hD with ⟨_, rfl⟩ | ⟨e, _⟩
  · exact ⟨fun s us ws _ hl => .of_eq (h kV doc pm an cdv ct us ws hl), hrel⟩
  · exact absurd rfl e
theorem XcAt.app {O : Sto} {k : Nat} {D : Addr} (h : XcAt O k D) (ys : Sto) : XcAt (O ++ ys) k D := by
  have e : ∀ {i : Nat} {c : Cell}, O[i]? = some c → (O ++ ys)[i]? = some c := fun h => by rw [List.getElem?_append_left (List.getElem?_eq_some_iff.mp h).1]; exact h
  rcases h with h | ⟨j, fs, h1, h2⟩
  · exact .inl (e h)
  · exact .inr ⟨j, fs, e h1, e h2⟩
end Dm

set_option Elab.async false
set_option linter.all false
set_option maxRecDepth 100000
set_option maxHeartbeats 4000000
/-! The data machine: the law's own call, the end of a law, a hook with facts of one's own. -/
namespace Dm
open PySem PySem.Spec PyProof.Rows L2
/-- no list stands in the written part -/
def noLst (K : PySem.W.Frag) : Bool := K.all fun p => !(p.2.cls == Value.type "list")
theorem noLst_ok {K : PySem.W.Frag} (h : noLst K = true) {a : Addr} {o : Obj} (e : K.lookup a = some o) : o.cls ≠ .type "list" := by
  intro z
  have m : ∀ l : List (Addr × Obj), l.lookup a = some o → ∃ b, (b, o) ∈ l := by
    intro l
    induction l with
    | nil => intro h; cases h
    | cons p l ih =>
      intro h
      obtain ⟨b, q⟩ := p
      rw [List.lookup_cons] at h
      split at h
      · cases h
        exact ⟨b, List.mem_cons_self⟩
      · obtain ⟨c, hc⟩ := ih h
        exact ⟨c, List.mem_cons_of_mem _ hc⟩
  obtain ⟨b, hb⟩ := m K e
  have q := List.all_eq_true.mp h (b, o) hb
  rw [show ((b, o) : Addr × Obj).2.cls = Value.type "list" from z] at q
  simp at q
/-- the law's def called with the script -/
theorem law_callG {P : Program} {w : World} {K : PySem.W.Frag} {mg mb : Str → Option Value} {k : Nat} {fa a : Addr} {fd : FuncData} {x : Str} {sp : SpD} {s₁ : Shared} {vs : List Value} {ns : List Int} (KX : K.In s₁.heap) (nl : noLst K = true) (hns : s₁.heap.Ns mainGlobals mg)
    (hb : s₁.heap.Ns builtinsNs mb) (hbb : ∀ x : Str, x ≠ "__name__" → mb x = bootBuiltins x) (hlim : s₁.heap.NoLimit) (hg : s₁.gens = #[]) (ha : s₁.heap.get? a = some { cls := .type "list", data := .seq vs.toArray }) (hi : IntsAre vs ns) (hl : ns.length ≤ sizeLine) (hr : Room k callerA)
    (F : ∀ base : Heap, K.In base → base.Ns mainGlobals mg → FnG P w K mg base k fa fd [x] sp) (hbind : ∀ (s : Shared) (u : Value), BindsTo s fd ⟨[u], []⟩ [(x, u)]) (hsp : sp [.cell 0] [.rol (ns.map W.int)] fun w _ => w = .bl true) :
    codeAny (model P w) callerA (.call (.ref fa) ⟨[.ref a], []⟩) (fun r s' => r = .ok (.ret (.bool true)) ∧ OldK s₁.heap s'.heap ∧ s'.os = s₁.os ∧ AllBare s'.gens) s₁ := by
  have kn : K.lookup a = none := by
    cases e : K.lookup a with
    | none => rfl
    | some o =>
      have q := KX a o e
      rw [ha] at q
      cases q
      exact absurd rfl (noLst_ok nl e)
  let H : Hp := fun b => if b = a then some (.frz { cls := .type "list", data := .seq vs.toArray } (.lst (ns.map V.int))) else none
  have hAt : H a = some (.frz { cls := .type "list", data := .seq vs.toArray } (.lst (ns.map V.int))) := if_pos rfl
  have hNo : ∀ b, b ≠ a → H b = none := fun b n => if_neg n
  have hok : HOk P w H s₁.heap := fun b u z => by
    by_cases e : b = a
    · subst e
      rw [hAt] at z
      cases z
      exact ⟨ha, by rw [List.length_map]; exact hl, vs, _, vals_ints hi, ha⟩
    · rw [hNo b e] at z
      cases z
  have up : ∀ {b : Addr} {o : Obj}, s₁.heap.get? b = some o → b ≠ a → (hidT s₁.heap H).get? b = some o := fun q n => hidT_get q (hNo _ n)
  have hKb : K.In (hidT s₁.heap H) := fun b o e => up (KX b o e) (fun z => by rw [z, kn] at e; cases e)
  have nsK : ∀ {b : Addr} {m : Str → Option Value}, s₁.heap.Ns b m → (hidT s₁.heap H).Ns b m := fun {b m} ⟨o, es, ep, e, d, r⟩ => ⟨o, es, ep, up e (fun z => by
    rw [z, ha] at e
    cases e
    cases d), d, r⟩
  have hM : Mod K mg (hidT s₁.heap H) := ⟨hKb, nsK hns, ⟨mb, nsK hb, hbb⟩, let ⟨mc, h1, h2⟩ := hlim; ⟨mc, nsK h1, h2⟩⟩
  have none0 : ∀ {b : Addr}, b ∉ ([] : List Addr) := fun z => nomatch z
  have e0 : Env0 P w K mg (hidT s₁.heap H) callerA [] s₁ H := ⟨rfl, hM, fun _ _ e => of_hidT e, Nat.le_of_eq (hidT_size _ _), trivial, fun b hb => absurd hb none0, hok, .of_eq hg⟩
  have jn : Jn K (fun _ => none) H [a] [.rol (ns.map W.int)] := by
    refine ⟨(fun _ _ e => nomatch e), rfl, by simp [List.nodup_cons], fun i b c e1 e2 => ?_, fun i b e => ?_⟩
    · cases i with
      | zero =>
        cases e1
        cases e2
        exact ⟨rfl, _, _, hAt, RWs.ints⟩
      | succ i => cases e1
    · cases i with
      | zero =>
        cases e
        rw [hAt]
        simp
      | succ i => cases e
  refine codeAny_mono ((F _ hKb (nsK hns)).run callerA [] s₁ H ⟨[.ref a], []⟩ [.ref a] [.ref a] (fun v _ => v = .bl true) ⟨hr, rfl⟩ e0 (hbind s₁ (.ref a)) (.cons rfl .nil)
    ⟨_, _, _, [.cell 0], _, jn, .cons (.cell rfl) .nil, hsp, fun v w F' H' θ' O' _ _ r q => by rw [q] at r; exact r.bl_inv⟩) fun r s' h => ?_
  cases r with
  | error e => exact (show False from h).elim
  | ok fl =>
    cases fl with
    | next => exact False.elim h
    | brk => exact False.elim h
    | cont => exact False.elim h
    | ret u =>
      obtain ⟨v, H', os, bare, un, hok', r', q⟩ := h
      subst q
      obtain rfl : u = Value.bool true := r'
      refine ⟨rfl, OldK.of_keep fun b o e => ?_, os, bare⟩
      by_cases n : b = a
      · subst n
        obtain ⟨e1, _⟩ := hok b _ hAt
        obtain ⟨e2, _⟩ := hok' b _ (un.frzs b _ _ hAt)
        rw [e] at e1
        cases e1
        exact e2
      · exact un.keep b o e (hNo b n) none0 none0
/-- the end of a law: F gives the written part, the function object, the promise over every base -/
theorem walk_ofG {l : PySem.W.OpenLaw} {n k : Nat} {q : Program} {loose : List Str} {XP : (Str → Option Value) → Heap → Prop} {YP : World → Heap → Prop} {d : DefRec} {x : Str} (hn : l.most = some n) (hn2 : n ≤ sizeLine) (hdf : d.params.defaults = []) (hr : Room k callerA)
    (F : ∀ (w : World) (mg : Str → Option Value) (fa : Addr) (h : Heap), YP w h → h.Ns mainGlobals mg → mg d.name = some (.ref fa) →
      ∃ (K : PySem.W.Frag) (fd : FuncData) (sp : SpD), K.In h ∧ noLst K = true ∧ (∀ (s : Shared) (u : Value), BindsTo s fd ⟨[u], []⟩ [(x, u)]) ∧
        (∀ ns : List Int, ns.length ≤ n → (∀ z ∈ ns, Builtin.Int.intBits z ≤ 1048576) → sp [.cell 0] [.rol (ns.map W.int)] fun w _ => w = .bl true) ∧
        ∀ base : Heap, K.In base → base.Ns mainGlobals mg → FnG l.prog w K mg base k fa fd [x] sp) :
    PySem.W.WalkO q loose XP YP l.row.toRowW d [] (fun f vs => PySem.call f vs) := by
  refine Att.attach_callB hn hdf fun w s₀ s₁ mg mb fa o pm cd doc a vs ns G Y ho hd hcd hmg hobj hints hlen hbits hg => ?_
  obtain ⟨K, fd, sp, KX, nl, hb, hsp, hF⟩ := F w mg fa _ Y G.T.g hmg
  exact law_callG KX nl G.T.g G.T.b G.T.builtins G.T.nolimit hg hobj hints (Nat.le_trans hlen hn2) hr hF hb (hsp ns hlen hbits)

/-! ### a hook with facts of one's own -/
def obsX (xs : PySem.W.Frag → Bool) (fa : List He.Fa) (fn : List He.DefD) (K : PySem.W.Frag) : Bool × He.AlD := (xs K, He.obsD fa fn K)
def obsXG (xs : PySem.W.Frag → Bool) (n : Nat) (fa : List He.Fa) (fn : List He.DefD) (g : Addr → Option Obj) : Bool × He.AlD := obsX xs fa fn (He.frG g (He.asD g n))
def SaysX (xs : PySem.W.Frag → Bool) (fa : List He.Fa) (fn : List He.DefD) (K : PySem.W.Frag) : Prop := obsX xs fa fn K = (true, He.valD fn)
def hookX (xs : PySem.W.Frag → Bool) (n : Nat) (fa : List He.Fa) (fn : List He.DefD) : PySem.W.Hook where
  α := Bool × He.AlD
  obs := fun s => obsXG xs n fa fn s.heap.get?
  val := fun _ => (true, He.valD fn)
  says := fun _ h => ∃ K : PySem.W.Frag, K.In h ∧ SaysX xs fa fn K
  of := fun _ _ e => ⟨_, He.frG_in, e⟩
  keeps := fun _ _ _ ⟨K, hK, c⟩ k => ⟨K, PySem.W.Frag.In.keeps hK k, c⟩
theorem obsXG_eq {xs : PySem.W.Frag → Bool} {n : Nat} {fa : List He.Fa} {fn : List He.DefD} {g : Addr → Option Obj} {s : Shared} (h : ∀ a, g a = s.heap.get? a) : obsXG xs n fa fn g = (hookX xs n fa fn).obs s := by
  have e : g = s.heap.get? := funext h
  rw [e] <;> rfl
theorem SaysX.own {xs : PySem.W.Frag → Bool} {fa : List He.Fa} {fn : List He.DefD} {K : PySem.W.Frag} (c : SaysX xs fa fn K) : xs K = true := congrArg Prod.fst c
theorem SaysX.d {xs : PySem.W.Frag → Bool} {fa : List He.Fa} {fn : List He.DefD} {K : PySem.W.Frag} (c : SaysX xs fa fn K) : He.SaysD fa fn K := congrArg Prod.snd c
end Dm

set_option Elab.async false
set_option linter.all false
set_option maxRecDepth 100000
set_option maxHeartbeats 1000000
/-! What stays of a store; comprehensions and loops over things, in general. -/
namespace Dm
open PySem PySem.Spec PyProof.Rows L2

/-- every cell of O stands in O' as it was -/
def Sm (O O' : Sto) : Prop := ∀ (i : Nat) (c : Cell), O[i]? = some c → O'[i]? = some c
/-- all but the cells ks -/
def SmB (ks : List Nat) (O O' : Sto) : Prop := O.length ≤ O'.length ∧ ∀ (i : Nat) (c : Cell), i ∉ ks → O[i]? = some c → O'[i]? = some c
section
variable {O O' O1 O2 : Sto} {ks : List Nat}
theorem Sm.refl : Sm O O := fun _ _ h => h
theorem Sm.trans (a : Sm O O1) (b : Sm O1 O2) : Sm O O2 := fun i c h => b i c (a i c h)
theorem Sm.app (h : Sm O O1) (ys : Sto) : Sm O (O1 ++ ys) := fun i c e => by
  have e1 := h i c e
  rw [List.getElem?_append_left (List.getElem?_eq_some_iff.mp e1).1]
  exact e1
theorem Sm.len (h : Sm O O') : O.length ≤ O'.length := by
  cases e : O.length with
  | zero => exact Nat.zero_le _
  | succ n =>
    have hn : n < O.length := by omega
    have q := h n _ (List.getElem?_eq_getElem hn)
    exact (List.getElem?_eq_some_iff.mp q).1
theorem Sm.set (h : Sm O O') {k : Nat} {c : Cell} (hk : O.length ≤ k) : Sm O (O'.set k c) := fun i d e => by
  have hi := (List.getElem?_eq_some_iff.mp e).1
  rw [List.getElem?_set_ne (by omega)]
  exact h i d e
theorem Sm.push {c : Cell} : Sm O (O ++ [c]) := Sm.refl.app _
theorem Sm.b (h : Sm O O') : SmB ks O O' := ⟨h.len, fun i c _ e => h i c e⟩
theorem SmB.refl : SmB ks O O := Sm.refl.b
theorem SmB.trans (a : SmB ks O O1) (b : SmB ks O1 O2) : SmB ks O O2 := ⟨Nat.le_trans a.1 b.1, fun i c n h => b.2 i c n (a.2 i c n h)⟩
theorem SmB.nil (h : SmB [] O O') : Sm O O' := fun i c e => h.2 i c (by simp) e
theorem SmB.set (h : SmB ks O O') {k : Nat} {c : Cell} (hk : k ∈ ks ∨ O.length ≤ k) : SmB ks O (O'.set k c) := ⟨by rw [List.length_set]; exact h.1, fun i d n e => by
  have hi := (List.getElem?_eq_some_iff.mp e).1
  rw [List.getElem?_set_ne (by
    rintro rfl
    rcases hk with hk | hk
    · exact n hk
    · omega)]
  exact h.2 i d n e⟩
theorem SmB.app (h : SmB ks O O1) (ys : Sto) : SmB ks O (O1 ++ ys) := ⟨by rw [List.length_append]; have := h.1; omega, fun i c n e => by
  have e1 := h.2 i c n e
  rw [List.getElem?_append_left (List.getElem?_eq_some_iff.mp e1).1]
  exact e1⟩
theorem SmB.drop {k : Nat} (h : SmB (k :: ks) O O') (hk : O.length ≤ k) : SmB ks O O' := ⟨h.1, fun i c n e => h.2 i c (by
  have hi := (List.getElem?_eq_some_iff.mp e).1
  simp only [List.mem_cons, not_or]
  exact ⟨by omega, n⟩) e⟩
theorem SmB.wide {k : Nat} (h : SmB ks O O') : SmB (k :: ks) O O' := ⟨h.1, fun i c n e => h.2 i c (fun z => n (List.mem_cons_of_mem _ z)) e⟩
theorem Sm.lstC (h : Sm O O') {k : Nat} {ws : List W} (c : LstC O k ws) : LstC O' k ws := c.elim (fun e => .inl (h _ _ e)) fun e => .inr (h _ _ e)
theorem SmB.lstC (h : SmB ks O O') {k : Nat} (n : k ∉ ks) {ws : List W} (c : LstC O k ws) : LstC O' k ws := c.elim (fun e => .inl (h.2 _ _ n e)) fun e => .inr (h.2 _ _ n e)
theorem push_at {c : Cell} : (O ++ [c])[O.length]? = some c := by simp
theorem Sm.ty (h : Sm O O') {w : W} {t : String} (e : tyW w O = some t) : tyW w O' = some t := by
  cases w with
  | cell k =>
    unfold tyW at e ⊢
    dsimp only at e ⊢
    cases q : O[k]? with
    | none => rw [q] at e; cases e
    | some c => rw [h k c q]; rw [q] at e; exact e
  | _ => exact e
end
theorem ifT {p q : Prop} (h : p) : if true = true then p else q := by rw [if_pos rfl]; exact h
theorem ifF {p q : Prop} (h : q) : if false = true then p else q := by rw [if_neg (by decide)]; exact h
theorem sz_le {a : Nat} (h : a ≤ 1000000) : a ≤ sizeLine := by rw [sizeLine_eq]; omega
theorem sz_lt {a : Nat} (h : a ≤ 1000000) : a < sizeLine := by rw [sizeLine_eq]; omega

/-! ### comprehensions -/
/-- the loop of a list comprehension over the items zs: each is kept where p says so, as f tells -/
theorem lc_gen {w : Wk} {O1 : Sto} {δ : DS} {zs : List W} {f : W → W} {p : W → Bool} {g : DG} {wt : DT} {we : DE} {vs : List Nat} {S : WK} (hat : ∀ O', Sm O1 O' → w.ok O' ∧ ∀ i, w.at_ i O' = zs[i]?) (hl : zs.length ≤ 1000000)
    (hel : ∀ (i : Nat) (z : W), zs[i]? = some z → ∀ O', Sm O1 O' → ∀ (S1 : WK) (S0 : Sto → Prop), (∀ O2, Sm O' O2 → if p z = true then S1 (f z) O2 else S0 O2) → g z (wipeD δ vs) O' fun δ2 O2 => wt δ2 O2 fun b O3 => if b = true then we δ2 O3 S1 else S0 O3)
    (fin : ∀ O', Sm O1 O' → O'[O1.length]? = some (.lst ((zs.filter p).map f)) → S (.cell O1.length) O') :
    ∃ (n : Nat) (Pv : Nat → Sto → Prop), Pv 0 (O1 ++ [.lst []]) ∧ ∀ i O, Pv i O → i ≤ n ∧ w.ok O ∧ (match w.at_ i O with
      | none => S (.cell O1.length) O
      | some z => i < n ∧ g z (wipeD δ vs) O fun δ2 O2 => wt δ2 O2 fun b O3 => if b = true then we δ2 O3 fun y O4 => ∃ acc, O4[O1.length]? = some (.lst acc) ∧ acc.length < sizeLine ∧ Pv (i + 1) (O4.set O1.length (.lst (acc ++ [y]))) else Pv (i + 1) O3) := by
  refine ⟨zs.length, fun i O' => i ≤ zs.length ∧ Sm O1 O' ∧ O'[O1.length]? = some (.lst (((zs.take i).filter p).map f)), ⟨Nat.zero_le _, Sm.push, by simp⟩, fun i O' hi => ?_⟩
  obtain ⟨hi, hs, hc⟩ := hi
  obtain ⟨ok, ha⟩ := hat O' hs
  refine ⟨hi, ok, ?_⟩
  rw [ha i]
  cases hz : zs[i]? with
  | none =>
    have hn := List.getElem?_eq_none_iff.mp hz
    rw [List.take_of_length_le hn] at hc
    exact fin O' hs hc
  | some z =>
    have hlt := (List.getElem?_eq_some_iff.mp hz).1
    have et : zs.take (i + 1) = zs.take i ++ [z] := by rw [List.take_succ, hz]; rfl
    refine ⟨hlt, hel i z hz O' hs _ (fun O3 => i + 1 ≤ zs.length ∧ Sm O1 O3 ∧ O3[O1.length]? = some (.lst (((zs.take (i + 1)).filter p).map f))) fun O2 h2 => ?_⟩
    have hc2 := h2 _ _ hc
    cases hp : p z with
    | true =>
      refine ifT ⟨_, hc2, ?_, hlt, (hs.trans h2).set (Nat.le_refl _), ?_⟩
      · rw [List.length_map]
        refine sz_lt (Nat.le_trans (List.length_filter_le _ _) ?_)
        rw [List.length_take]
        omega
      · rw [List.getElem?_set_self (List.getElem?_eq_some_iff.mp hc2).1, et, List.filter_append, List.map_append]
        simp [hp]
    | false =>
      refine ifF ⟨hlt, hs.trans h2, ?_⟩
      rw [et, List.filter_append]
      simp [hp]
      exact hc2
/-- without a test -/
theorem lc_gen1 {w : Wk} {O1 : Sto} {δ : DS} {zs : List W} {f : W → W} {g : DG} {we : DE} {vs : List Nat} {S : WK} (hat : ∀ O', Sm O1 O' → w.ok O' ∧ ∀ i, w.at_ i O' = zs[i]?) (hl : zs.length ≤ 1000000)
    (hel : ∀ (i : Nat) (z : W), zs[i]? = some z → ∀ O', Sm O1 O' → ∀ S1 : WK, (∀ O2, Sm O' O2 → S1 (f z) O2) → g z (wipeD δ vs) O' fun δ2 O2 => we δ2 O2 S1)
    (fin : ∀ O', Sm O1 O' → O'[O1.length]? = some (.lst (zs.map f)) → S (.cell O1.length) O') :
    ∃ (n : Nat) (Pv : Nat → Sto → Prop), Pv 0 (O1 ++ [.lst []]) ∧ ∀ i O, Pv i O → i ≤ n ∧ w.ok O ∧ (match w.at_ i O with
      | none => S (.cell O1.length) O
      | some z => i < n ∧ g z (wipeD δ vs) O fun δ2 O2 => dYes δ2 O2 fun b O3 => if b = true then we δ2 O3 fun y O4 => ∃ acc, O4[O1.length]? = some (.lst acc) ∧ acc.length < sizeLine ∧ Pv (i + 1) (O4.set O1.length (.lst (acc ++ [y]))) else Pv (i + 1) O3) := by
  have ef : zs.filter (fun _ => true) = zs := List.filter_eq_self.mpr fun _ _ => rfl
  have := lc_gen (δ := δ) (f := f) (p := fun _ => true) (g := g) (wt := dYes) (we := we) (vs := vs) (S := S) hat hl (fun i z hz O' hs S1 S0 h => hel i z hz O' hs S1 fun O2 h2 => by
    have q := h O2 h2
    rw [if_pos rfl] at q
    exact q) (fun O' hs hc => fin O' hs (by rw [ef] at hc; exact hc))
  exact this
theorem at_tup {ws : List W} {O1 : Sto} : ∀ O', Sm O1 O' → (wkT ws).ok O' ∧ ∀ i, (wkT ws).at_ i O' = ws[i]? := fun _ _ => ⟨True.intro, fun _ => rfl⟩
theorem at_lst {k : Nat} {ws : List W} {O1 : Sto} (h : LstC O1 k ws) : ∀ O', Sm O1 O' → (wkL k).ok O' ∧ ∀ i, (wkL k).at_ i O' = ws[i]? := fun O' s => ⟨⟨ws, s.lstC h⟩, fun i => wkL_at (s.lstC h)⟩
theorem at_str {x : Str} {O1 : Sto} : ∀ O', Sm O1 O' → (wkS x).ok O' ∧ ∀ i, (wkS x).at_ i O' = (x.cps.toList.map fun c => W.str ⟨#[c]⟩)[i]? := fun _ _ => ⟨True.intro, fun i => by
  show x.cps[i]?.map _ = _
  rw [List.getElem?_map, Array.getElem?_toList]⟩
/-- isinstance of a thing whose kind is known -/
theorem isi_of {x : W} {t T : String} {b : Bool} {O : Sto} {S : WK} (h : tyW x O = some t) (hb : kitB t T = some b) (q : S (.bl b) O) : rdIsi [x, .ty T] O S := ⟨x, T, t, b, rfl, h, hb, q⟩
section
variable {δ : DS} {O : Sto} {S : WK} {i : Nat} {f : W → W} {p : W → Bool} {g : DG} {wt : DT} {we : DE} {vs : List Nat}
theorem ev_lcT {zs : List W} (h : δ[i]? = some (some (.tup zs))) (hl : zs.length ≤ 1000000) (hel : ∀ (i : Nat) (z : W), zs[i]? = some z → ∀ O', Sm O O' → ∀ S1 : WK, (∀ O2, Sm O' O2 → S1 (f z) O2) → g z (wipeD δ vs) O' fun δ2 O2 => we δ2 O2 S1)
    (fin : ∀ O', Sm O O' → O'[O.length]? = some (.lst (zs.map f)) → S (.cell O.length) O') : dLc (diT (dVar i)) g dYes we vs δ O S := ⟨_, h, zs, rfl, lc_gen1 at_tup hl hel fin⟩
theorem ev_lcL {k : Nat} {zs : List W} (h : δ[i]? = some (some (.cell k))) (hk : LstC O k zs) (hl : zs.length ≤ 1000000) (hel : ∀ (i : Nat) (z : W), zs[i]? = some z → ∀ O', Sm O O' → ∀ S1 : WK, (∀ O2, Sm O' O2 → S1 (f z) O2) → g z (wipeD δ vs) O' fun δ2 O2 => we δ2 O2 S1)
    (fin : ∀ O', Sm O O' → O'[O.length]? = some (.lst (zs.map f)) → S (.cell O.length) O') : dLc (diL (dVar i)) g dYes we vs δ O S := ⟨_, h, k, zs, rfl, hk, lc_gen1 (at_lst hk) hl hel fin⟩
theorem ev_lcS {x : Str} (h : δ[i]? = some (some (.str x))) (hl : x.length ≤ 1000000) (hel : ∀ (i : Nat) (c : Nat), x.cps.toList[i]? = some c → ∀ O', Sm O O' → ∀ S1 : WK, (∀ O2, Sm O' O2 → S1 (f (.str ⟨#[c]⟩)) O2) → g (.str ⟨#[c]⟩) (wipeD δ vs) O' fun δ2 O2 => we δ2 O2 S1)
    (fin : ∀ O', Sm O O' → O'[O.length]? = some (.lst (x.cps.toList.map fun c => f (.str ⟨#[c]⟩))) → S (.cell O.length) O') : dLc (diS (dVar i)) g dYes we vs δ O S := ⟨_, h, x, rfl, lc_gen1 at_str (by rw [List.length_map]; exact hl) (fun i z hz O' hs S1 hq => by
      rw [List.getElem?_map] at hz
      cases hc : x.cps.toList[i]? with
      | none => rw [hc] at hz; cases hz
      | some c =>
        rw [hc] at hz
        cases hz
        exact hel i c hc O' hs S1 hq) fun O' hs hc => fin O' hs (by rw [hc, List.map_map]; rfl)⟩
/-- .. with a test -/
theorem ev_lcTp {zs : List W} (h : δ[i]? = some (some (.tup zs))) (hl : zs.length ≤ 1000000) (hel : ∀ (i : Nat) (z : W), zs[i]? = some z → ∀ O', Sm O O' → ∀ (S1 : WK) (S0 : Sto → Prop), (∀ O2, Sm O' O2 → if p z = true then S1 (f z) O2 else S0 O2) → g z (wipeD δ vs) O' fun δ2 O2 => wt δ2 O2 fun b O3 => if b = true then we δ2 O3 S1 else S0 O3)
    (fin : ∀ O', Sm O O' → O'[O.length]? = some (.lst ((zs.filter p).map f)) → S (.cell O.length) O') : dLc (diT (dVar i)) g wt we vs δ O S := ⟨_, h, zs, rfl, lc_gen at_tup hl hel fin⟩
theorem ev_all {wa : DE} (h : wa δ O fun x O1 => ∃ (k : Nat) (bs : List Bool), x = .cell k ∧ LstC O1 k (bs.map W.bl) ∧ S (.bl (bs.all id)) O1) : dCB rdAll (dCons wa dNil) δ O S := by
  have m : (dCB rdAll (dCons wa dNil) δ O S) = (wa δ O fun x O1 => rdAll [x] O1 S) := rfl
  rw [m]
  have e : (fun x O1 => rdAll [x] O1 S) = fun x O1 => ∃ (k : Nat) (bs : List Bool), x = .cell k ∧ LstC O1 k (bs.map W.bl) ∧ S (.bl (bs.all id)) O1 := by
    funext x O1
    apply propext
    constructor
    · rintro ⟨k, bs, e, h1, h2⟩
      cases e
      exact ⟨k, bs, rfl, h1, h2⟩
    · rintro ⟨k, bs, rfl, h1, h2⟩
      exact ⟨k, bs, rfl, h1, h2⟩
  rw [e]
  exact h
end
end Dm

set_option Elab.async false
set_option linter.all false
set_option maxRecDepth 100000
set_option maxHeartbeats 1000000
/-! plain: what its defs say of any thing. -/
namespace Dm
open PySem PySem.Spec PyProof.Rows L2

/-- a thing that may be asked for its kind; a text of it is no giant -/
def Vw (O : Sto) (w : W) : Prop := (∃ t, tyW w O = some t) ∧ ∀ z, w = .str z → z.length ≤ 1000000
theorem Vw.mono {O O' : Sto} {w : W} (h : Vw O w) (s : Sm O O') : Vw O' w := ⟨let ⟨t, e⟩ := h.1; ⟨t, s.ty e⟩, h.2⟩
def tInt : W → Bool
  | .int _ => true
  | .bl _ => true
  | _ => false
def tBool : W → Bool
  | .bl _ => true
  | _ => false
def tStr : W → Bool
  | .str _ => true
  | _ => false
def tTup : W → Bool
  | .tup _ => true
  | _ => false
def tLst (O : Sto) : W → Bool
  | .cell k => (match O[k]? with
    | some (.lst _) => true
    | some (.rol _) => true
    | _ => false)
  | _ => false
theorem ty_cell {O : Sto} {k : Nat} {t : String} (h : tyW (.cell k) O = some t) : t = "list" ∨ t = "dict" := by
  unfold tyW at h
  dsimp only at h
  split at h
  · cases h; exact .inl rfl
  · cases h; exact .inl rfl
  · cases h; exact .inr rfl
  · cases h
theorem isi_int {O : Sto} {w : W} {S : WK} (h : Vw O w) (q : S (.bl (tInt w)) O) : rdIsi [w, .ty "int"] O S := by
  obtain ⟨⟨t, e⟩, _⟩ := h
  cases w with
  | non => exact isi_of rfl (show kitB "NoneType" "int" = some false by decide +kernel) q
  | bl b => exact isi_of rfl (show kitB "bool" "int" = some true by decide +kernel) q
  | int i => exact isi_of rfl (show kitB "int" "int" = some true by decide +kernel) q
  | str x => exact isi_of rfl (show kitB "str" "int" = some false by decide +kernel) q
  | tup ws => exact isi_of rfl (show kitB "tuple" "int" = some false by decide +kernel) q
  | cell k =>
    rcases ty_cell e with rfl | rfl
    · exact isi_of e (show kitB "list" "int" = some false by decide +kernel) q
    · exact isi_of e (show kitB "dict" "int" = some false by decide +kernel) q
  | ty n => cases e
  | ref a => cases e
  | xr a d k => cases e
  | rng lo hi => cases e
theorem isi_bool {O : Sto} {w : W} {S : WK} (h : Vw O w) (q : S (.bl (tBool w)) O) : rdIsi [w, .ty "bool"] O S := by
  obtain ⟨⟨t, e⟩, _⟩ := h
  cases w with
  | non => exact isi_of rfl (show kitB "NoneType" "bool" = some false by decide +kernel) q
  | bl b => exact isi_of rfl (show kitB "bool" "bool" = some true by decide +kernel) q
  | int i => exact isi_of rfl (show kitB "int" "bool" = some false by decide +kernel) q
  | str x => exact isi_of rfl (show kitB "str" "bool" = some false by decide +kernel) q
  | tup ws => exact isi_of rfl (show kitB "tuple" "bool" = some false by decide +kernel) q
  | cell k =>
    rcases ty_cell e with rfl | rfl
    · exact isi_of e (show kitB "list" "bool" = some false by decide +kernel) q
    · exact isi_of e (show kitB "dict" "bool" = some false by decide +kernel) q
  | ty n => cases e
  | ref a => cases e
  | xr a d k => cases e
  | rng lo hi => cases e
theorem isi_str {O : Sto} {w : W} {S : WK} (h : Vw O w) (q : S (.bl (tStr w)) O) : rdIsi [w, .ty "str"] O S := by
  obtain ⟨⟨t, e⟩, _⟩ := h
  cases w with
  | non => exact isi_of rfl (show kitB "NoneType" "str" = some false by decide +kernel) q
  | bl b => exact isi_of rfl (show kitB "bool" "str" = some false by decide +kernel) q
  | int i => exact isi_of rfl (show kitB "int" "str" = some false by decide +kernel) q
  | str x => exact isi_of rfl (show kitB "str" "str" = some true by decide +kernel) q
  | tup ws => exact isi_of rfl (show kitB "tuple" "str" = some false by decide +kernel) q
  | cell k =>
    rcases ty_cell e with rfl | rfl
    · exact isi_of e (show kitB "list" "str" = some false by decide +kernel) q
    · exact isi_of e (show kitB "dict" "str" = some false by decide +kernel) q
  | ty n => cases e
  | ref a => cases e
  | xr a d k => cases e
  | rng lo hi => cases e
theorem isi_tuple {O : Sto} {w : W} {S : WK} (h : Vw O w) (q : S (.bl (tTup w)) O) : rdIsi [w, .ty "tuple"] O S := by
  obtain ⟨⟨t, e⟩, _⟩ := h
  cases w with
  | non => exact isi_of rfl (show kitB "NoneType" "tuple" = some false by decide +kernel) q
  | bl b => exact isi_of rfl (show kitB "bool" "tuple" = some false by decide +kernel) q
  | int i => exact isi_of rfl (show kitB "int" "tuple" = some false by decide +kernel) q
  | str x => exact isi_of rfl (show kitB "str" "tuple" = some false by decide +kernel) q
  | tup ws => exact isi_of rfl (show kitB "tuple" "tuple" = some true by decide +kernel) q
  | cell k =>
    rcases ty_cell e with rfl | rfl
    · exact isi_of e (show kitB "list" "tuple" = some false by decide +kernel) q
    · exact isi_of e (show kitB "dict" "tuple" = some false by decide +kernel) q
  | ty n => cases e
  | ref a => cases e
  | xr a d k => cases e
  | rng lo hi => cases e
section
variable {δ : DS} {O : Sto} {S : WK} {D : DEnds} {wa wb we : DE} {wr : DA} {i : Nat} {w : W}
theorem ev_ret (h : we δ O D.rt) : dRet we D δ O := h
theorem ev_and (h : wa δ O fun x O1 => ∃ t, x = .bl t ∧ if t = true then wb δ O1 S else S (.bl false) O1) : dAndV wa wb δ O S := h
theorem ev_isi {T : String} (h : δ[i]? = some (some w)) (q : rdIsi [w, .ty T] O S) : dCB rdIsi (dCons (dVar i) (dCons (dC (.ty T)) dNil)) δ O S := ⟨w, h, q⟩
theorem ev_int (h : δ[i]? = some (some w)) (hv : Vw O w) (q : S (.bl (tInt w)) O) : dCB rdIsi (dCons (dVar i) (dCons (dC (.ty "int")) dNil)) δ O S := ⟨w, h, isi_int hv q⟩
theorem ev_bool (h : δ[i]? = some (some w)) (hv : Vw O w) (q : S (.bl (tBool w)) O) : dCB rdIsi (dCons (dVar i) (dCons (dC (.ty "bool")) dNil)) δ O S := ⟨w, h, isi_bool hv q⟩
theorem ev_str (h : δ[i]? = some (some w)) (hv : Vw O w) (q : S (.bl (tStr w)) O) : dCB rdIsi (dCons (dVar i) (dCons (dC (.ty "str")) dNil)) δ O S := ⟨w, h, isi_str hv q⟩
theorem ev_tuple (h : δ[i]? = some (some w)) (hv : Vw O w) (q : S (.bl (tTup w)) O) : dCB rdIsi (dCons (dVar i) (dCons (dC (.ty "tuple")) dNil)) δ O S := ⟨w, h, isi_tuple hv q⟩
theorem ev_seq {w1 w2 : DTS} (h : w1 { D with nx := w2 D } δ O) : dSeq w1 w2 D δ O := h
theorem ev_if {wt : DT} {w1 w2 : DTS} (h : wt δ O fun b O1 => if b = true then w1 D δ O1 else w2 D δ O1) : dIf wt w1 w2 D δ O := h
theorem ev_guard {wt : DT} {w2 : DTS} (h : wt δ O fun b O1 => if b = true then we δ O1 D.rt else w2 D δ O1) : dSeq (dIf wt (dRet we) dNext) w2 D δ O := h
theorem ev_not {wt : DT} {S : Bool → Sto → Prop} (h : wt δ O fun b O1 => S (!b) O1) : dNot wt δ O S := h
theorem ev_test {S : Bool → Sto → Prop} (h : we δ O fun x O1 => ∃ b, x = .bl b ∧ S b O1) : dTest we δ O S := h
theorem ev_or {wt wu : DT} {S : Bool → Sto → Prop} (h : wt δ O fun b O1 => if b = true then S true O1 else wu δ O1 S) : dOr wt wu δ O S := h
end
inductive Vd (O : Sto) : W → Prop
  | mk {w : W} : Vw O w → (∀ xs, w = .tup xs → ∀ x ∈ xs, Vd O x) → Vd O w
theorem Vd.v {O : Sto} {w : W} (h : Vd O w) : Vw O w := by cases h with | mk a _ => exact a
theorem Vd.at_ {O : Sto} {xs : List W} (h : Vd O (.tup xs)) {x : W} (hx : x ∈ xs) : Vd O x := by cases h with | mk _ b => exact b xs rfl x hx
theorem Vd.mono {O O' : Sto} {w : W} (h : Vd O w) (s : Sm O O') : Vd O' w := by
  induction h with
  | mk a _ ih => exact .mk (a.mono s) ih
theorem Vd.str {O : Sto} {x : Str} (h : x.length ≤ 1000000) : Vd O (.str x) := .mk ⟨⟨_, rfl⟩, fun z e => by cases e; exact h⟩ fun xs e => by cases e
theorem Vd.int {O : Sto} {i : Int} : Vd O (.int i) := .mk ⟨⟨_, rfl⟩, fun z e => by cases e⟩ fun xs e => by cases e
theorem Vd.tup {O : Sto} {ws : List W} (h : ∀ w ∈ ws, Vd O w) : Vd O (.tup ws) := .mk ⟨⟨_, rfl⟩, fun z e => by cases e⟩ fun xs e => by cases e; exact h
/-! ### the mirrors -/
abbrev lowS : Str := "abcdefghijklmnopqrstuvwxyz"
abbrev alnS : Str := "abcdefghijklmnopqrstuvwxyz0123456789"
abbrev grtS : Str := "ABCDEFGHIJKLMNOPQRSTUVWXYZ"
def mInt : W → Bool
  | .int _ => true
  | _ => false
def mTup (w : W) (a b : Int) : Bool := match w with
  | .tup ws => decide (a ≤ (ws.length : Int)) && decide ((ws.length : Int) ≤ b)
  | _ => false
def mOf (w : W) (xs : List W) : Bool := tStr w && inW w xs
def mOfD (w : W) (kvs : List (Key × W)) : Bool := match w with
  | .str s => (valW kvs (.inr s)).isSome
  | _ => false
def nameOk (s : Str) : Bool := (decide (1 ≤ s.length) && decide (s.length ≤ 12)) && ((s.cps.toList.head?.any fun c => decide (c ∈ lowS.cps.toList)) && s.cps.toList.all fun c => decide (c ∈ alnS.cps.toList))
def mName : W → Bool
  | .str s => nameOk s
  | _ => false
def varOk (s : Str) : Bool := match s.cps.toList with
  | [c] => decide (c ∈ grtS.cps.toList)
  | _ => false
def mVar : W → Bool
  | .str s => varOk s
  | _ => false
def strOf : W → Str
  | .str s => s
  | _ => Str.empty
def mNames (w : W) (a b : Int) : Bool := match w with
  | .tup xs => mTup w a b && (xs.all mName && decide (xs.map strOf).Nodup)
  | _ => false
/-! ### the promises -/
def sp_is_integer : SpD := fun ws O S => ∃ w, ws = [w] ∧ Vw O w ∧ S (.bl (mInt w)) O
def sp_is_tuple : SpD := fun ws O S => ∃ w a b, ws = [w, .int a, .int b] ∧ Vw O w ∧ S (.bl (mTup w a b)) O
def sp_is_one_of : SpD := fun ws O S => ∃ w x, ws = [w, x] ∧ Vw O w ∧ ((∃ xs, x = .tup xs ∧ xs.all flatW = true ∧ S (.bl (mOf w xs)) O) ∨ ∃ k kvs, x = .cell k ∧ O[k]? = some (.dct kvs) ∧ S (.bl (mOfD w kvs)) O)
def sp_is_name : SpD := fun ws O S => ∃ w, ws = [w] ∧ Vw O w ∧ ∀ O', Sm O O' → S (.bl (mName w)) O'
def sp_is_word : SpD := sp_is_name
def sp_is_variable : SpD := fun ws O S => ∃ w, ws = [w] ∧ Vw O w ∧ S (.bl (mVar w)) O
def sp_is_side : SpD := fun ws O S => ∃ w, ws = [w] ∧ Vw O w ∧ S (.bl (mOf w [.str "left", .str "right"])) O
def sp_are_names : SpD := fun ws O S => ∃ w a b, ws = [w, .int a, .int b] ∧ Vd O w ∧ b ≤ 1000 ∧ ∀ O', Sm O O' → S (.bl (mNames w a b)) O'
def d_is_integer : DTS := (dRet (dAndV (dCB rdIsi (dCons (dVar 0) (dCons (dC (.ty "int")) dNil))) (dNotV (dCB rdIsi (dCons (dVar 0) (dCons (dC (.ty "bool")) dNil))))))
abbrev n_is_integer : List Str := ["thing"]
def d_is_tuple : DTS := (dRet (dAndV (dCB rdIsi (dCons (dVar 0) (dCons (dC (.ty "tuple")) dNil))) (dChain cle cle (dVar 1) (dCB rdLen (dCons (dVar 0) dNil)) (dVar 2))))
abbrev n_is_tuple : List Str := ["thing", "least", "most"]
def d_is_one_of : DTS := (dRet (dAndV (dCB rdIsi (dCons (dVar 0) (dCons (dC (.ty "str")) dNil))) (dOp rdInU (dVar 0) (dVar 1))))
abbrev n_is_one_of : List Str := ["thing", "words"]
def d_is_name : DTS := (dSeq (dIf (dOr (dNot (dTest (dCB rdIsi (dCons (dVar 0) (dCons (dC (.ty "str")) dNil))))) (dNot (dTest (dChain cle cle (dC (.int 1)) (dCB rdLenS (dCons (dVar 0) dNil)) (dC (.int 12)))))) (dRet (dC (.bl false))) dNext)
    (dRet (dAndV (dOp rdInS (dOp rdIxS (dVar 0) (dC (.int 0))) (dC (.str "abcdefghijklmnopqrstuvwxyz"))) (dCB rdAll (dCons (dLc (diS (dVar 0)) (dgName 1) dYes (dOp rdInS (dVar 1) (dC (.str "abcdefghijklmnopqrstuvwxyz0123456789"))) [1]) dNil)))))
abbrev n_is_name : List Str := ["thing", "letter"]
def d_is_word : DTS := (dRet (dCall sp_is_name (dCons (dVar 0) dNil)))
abbrev n_is_word : List Str := ["thing"]
def d_is_variable : DTS := (dRet (dAndV (dCB rdIsi (dCons (dVar 0) (dCons (dC (.ty "str")) dNil))) (dAndV (dOp rdEq (dCB rdLenS (dCons (dVar 0) dNil)) (dC (.int 1))) (dOp rdInS (dVar 0) (dC (.str "ABCDEFGHIJKLMNOPQRSTUVWXYZ"))))))
abbrev n_is_variable : List Str := ["thing"]
def d_is_side : DTS := (dRet (dCall sp_is_one_of (dCons (dVar 0) (dCons (dC (.tup [.str "left", .str "right"])) dNil))))
abbrev n_is_side : List Str := ["thing"]
def d_are_names : DTS := (dSeq (dIf (dOr (dNot (dTest (dCall sp_is_tuple (dCons (dVar 0) (dCons (dVar 1) (dCons (dVar 2) dNil)))))) (dNot (dTest (dCB rdAll (dCons (dLc (diT (dVar 0)) (dgName 3) dYes (dCall sp_is_name (dCons (dVar 3) dNil)) [3]) dNil))))) (dRet (dC (.bl false))) dNext)
    (dRet (dOp rdEq (dLenSet (dVar 0)) (dCB rdLen (dCons (dVar 0) dNil)))))
abbrev n_are_names : List Str := ["thing", "least", "most", "entry"]
abbrev outB (S : WK) : DEnds := { nx := fun _ O' => S .non O', rt := S }
theorem rd_is_integer (ws : List W) (O : Sto) (S : WK) (h : sp_is_integer ws O S) : d_is_integer (outB S) (startD n_is_integer ws) O := by
  obtain ⟨w, rfl, hv, q⟩ := h
  refine ev_ret (ev_and (ev_int rfl hv ⟨_, rfl, ?_⟩))
  cases w with
  | int i => exact ifT (ev_bool rfl hv ⟨_, rfl, q⟩)
  | bl b => exact ifT (ev_bool rfl hv ⟨_, rfl, q⟩)
  | _ => exact ifF q
theorem rd_is_tuple (ws : List W) (O : Sto) (S : WK) (h : sp_is_tuple ws O S) : d_is_tuple (outB S) (startD n_is_tuple ws) O := by
  obtain ⟨w, a, b, rfl, hv, q⟩ := h
  refine ev_ret (ev_and (ev_tuple rfl hv ⟨_, rfl, ?_⟩))
  cases w with
  | tup ws =>
    refine ifT ⟨_, rfl, _, rfl, .inl ⟨ws, rfl, _, _, rfl, rfl, _, rfl, ?_⟩⟩
    unfold mTup at q
    dsimp only at q
    cases h1 : decide (a ≤ (ws.length : Int)) with
    | true =>
      rw [h1] at q
      exact ifT ⟨_, rfl, _, _, rfl, rfl, q⟩
    | false =>
      rw [h1] at q
      exact ifF q
  | _ => exact ifF q
theorem rd_is_one_of (ws : List W) (O : Sto) (S : WK) (h : sp_is_one_of ws O S) : d_is_one_of (outB S) (startD n_is_one_of ws) O := by
  obtain ⟨w, x, rfl, hv, q⟩ := h
  refine ev_ret (ev_and (ev_str rfl hv ⟨_, rfl, ?_⟩))
  cases w with
  | str s =>
    refine ifT ⟨_, rfl, _, rfl, ?_⟩
    rcases q with ⟨xs, rfl, hf, q⟩ | ⟨k, kvs, rfl, hk, q⟩
    · exact .inl ⟨xs, .inl rfl, rfl, hf, q⟩
    · exact .inr ⟨k, kvs, _, rfl, hk, rfl, q⟩
  | _ =>
    refine ifF ?_
    rcases q with ⟨xs, rfl, hf, q⟩ | ⟨k, kvs, rfl, hk, q⟩
    · exact q
    · exact q
theorem len_cps (s : Str) : s.length = s.cps.toList.length := rfl
theorem rd_is_variable (ws : List W) (O : Sto) (S : WK) (h : sp_is_variable ws O S) : d_is_variable (outB S) (startD n_is_variable ws) O := by
  obtain ⟨w, rfl, hv, q⟩ := h
  refine ev_ret (ev_and (ev_str rfl hv ⟨_, rfl, ?_⟩))
  cases w with
  | str s =>
    refine ifT ⟨_, rfl, s, rfl, sz_le (hv.2 s rfl), decide ((s.length : Int) = 1), rfl, _, rfl, ?_⟩
    unfold mVar varOk at q
    dsimp only at q
    by_cases h1 : s.length = 1
    · rw [decide_eq_true (by omega)]
      rw [len_cps] at h1
      obtain ⟨c, hc⟩ := List.length_eq_one_iff.mp h1
      rw [hc] at q
      have es : s = ⟨#[c]⟩ := by
        obtain ⟨a⟩ := s
        congr 1
        exact Array.toList_inj.mp hc
      refine ifT ⟨_, rfl, c, grtS, by rw [es], rfl, q⟩
    · rw [decide_eq_false (by omega)]
      refine ifF ?_
      cases hc : s.cps.toList with
      | nil => rw [hc] at q; exact q
      | cons c r =>
        cases r with
        | nil => exact absurd (by rw [len_cps, hc]; rfl) h1
        | cons d r => rw [hc] at q; exact q
  | _ => exact ifF q
theorem rd_is_name (ws : List W) (O : Sto) (S : WK) (h : sp_is_name ws O S) : d_is_name (outB S) (startD n_is_name ws) O := by
  obtain ⟨w, rfl, hv, q⟩ := h
  refine ev_seq (ev_if (ev_or (ev_not (ev_test (ev_str rfl hv ⟨_, rfl, ?_⟩)))))
  cases w with
  | str s =>
    have q0 := q O Sm.refl
    unfold mName nameOk at q
    unfold mName nameOk at q0
    dsimp only at q q0
    have hl := hv.2 s rfl
    refine ifF ⟨_, rfl, s, rfl, sz_le hl, _, _, rfl, rfl, _, rfl, ?_⟩
    by_cases h1 : 1 ≤ s.length
    · rw [decide_eq_true (show (1 : Int) ≤ (s.length : Int) by omega)]
      rw [decide_eq_true h1] at q q0
      refine ifT ⟨_, _, rfl, rfl, _, rfl, ?_⟩
      by_cases h2 : s.length ≤ 12
      · rw [decide_eq_true (show (s.length : Int) ≤ 12 by omega)]
        rw [decide_eq_true h2] at q q0
        have hc0 : ∃ c r, s.cps.toList = c :: r := by
          cases hc : s.cps.toList with
          | nil =>
            rw [len_cps, hc] at h1
            exact absurd h1 (by decide)
          | cons c r => exact ⟨c, r, rfl⟩
        obtain ⟨c, r, hc⟩ := hc0
        have i0 : atI s.cps.toList 0 = some c := by
          rw [hc]
          exact atI_nat (j := 0) rfl
        have hh : s.cps.toList.head?.any (fun c => decide (c ∈ lowS.cps.toList)) = decide (c ∈ lowS.cps.toList) := by rw [hc]; rfl
        rw [hh] at q q0
        refine ifF ⟨_, rfl, s, 0, c, rfl, rfl, sz_le hl, i0, c, lowS, rfl, rfl, _, rfl, ?_⟩
        cases h3 : decide (c ∈ lowS.cps.toList) with
        | false =>
          rw [h3] at q0
          exact ifF q0
        | true =>
          rw [h3] at q
          refine ifT (ev_all (ev_lcS (f := fun w => match w with
            | .str x => (match x.cps.toList with
              | [c] => .bl (decide (c ∈ alnS.cps.toList))
              | _ => .non)
            | _ => .non) rfl hl (fun i c hc O' hs S1 h => ⟨_, rfl, c, alnS, rfl, rfl, h O' Sm.refl⟩) fun O' hs hcell => ⟨_, s.cps.toList.map fun c => decide (c ∈ alnS.cps.toList), rfl, .inl ?_, ?_⟩))
          · rw [hcell, List.map_map]
            rfl
          · rw [List.all_map]
            exact q O' hs
      · rw [decide_eq_false (show ¬ (s.length : Int) ≤ 12 by omega)]
        rw [decide_eq_false h2] at q0
        exact ifT q0
    · rw [decide_eq_false (show ¬ (1 : Int) ≤ (s.length : Int) by omega)]
      rw [decide_eq_false h1] at q0
      exact ifF ⟨_, rfl, ifT q0⟩
  | _ => exact ifT (ifT (q O Sm.refl))
theorem rd_is_word (ws : List W) (O : Sto) (S : WK) (h : sp_is_word ws O S) : d_is_word (outB S) (startD n_is_word ws) O := by
  obtain ⟨w, rfl, hv, q⟩ := h
  exact ⟨_, rfl, w, rfl, hv, q⟩
theorem rd_is_side (ws : List W) (O : Sto) (S : WK) (h : sp_is_side ws O S) : d_is_side (outB S) (startD n_is_side ws) O := by
  obtain ⟨w, rfl, hv, q⟩ := h
  exact ⟨_, rfl, w, _, rfl, hv, .inl ⟨_, rfl, rfl, q⟩⟩
theorem tup_of {xs : List W} (h : xs.all mName = true) : xs = (xs.map strOf).map W.str := by
  rw [List.map_map]
  conv => lhs; rw [← List.map_id xs]
  refine List.map_congr_left fun x hx => ?_
  have q := List.all_eq_true.mp h x hx
  cases x <;> first | rfl | cases q
theorem rd_are_names (ws : List W) (O : Sto) (S : WK) (h : sp_are_names ws O S) : d_are_names (outB S) (startD n_are_names ws) O := by
  obtain ⟨w, a, b, rfl, hv, hb, q⟩ := h
  refine ev_seq (ev_if (ev_or (ev_not (ev_test ⟨_, rfl, _, rfl, _, rfl, w, a, b, rfl, hv.v, _, rfl, ?_⟩))))
  cases w with
  | tup xs =>
    unfold mNames at q
    dsimp only at q
    cases h1 : mTup (.tup xs) a b with
    | false =>
      rw [h1] at q
      exact ifT (ifT (q O Sm.refl))
    | true =>
      rw [h1] at q
      have hl : xs.length ≤ 1000 := by
        unfold mTup at h1
        dsimp only at h1
        have := of_decide_eq_true (Bool.and_eq_true_iff.mp h1).2
        omega
      refine ifF (ev_not (ev_test (ev_all (ev_lcT (f := fun w => .bl (mName w)) rfl (by omega) (fun i z hz O' hs S1 h => ⟨_, rfl, z, rfl, (hv.at_ (List.mem_of_getElem? hz)).v.mono hs, h⟩) fun O' hs hcell => ⟨_, xs.map mName, rfl, .inl ?_, _, rfl, ?_⟩))))
      · rw [hcell, List.map_map]
        rfl
      · rw [List.all_map]
        have e : (xs.all (id ∘ mName)) = xs.all mName := rfl
        rw [e]
        cases h2 : xs.all mName with
        | false =>
          rw [h2] at q
          exact ifT (q O' hs)
        | true =>
          rw [h2] at q
          have ex := tup_of h2
          refine ifF ⟨_, rfl, xs.map strOf, .inr (congrArg W.tup ex), by rw [List.length_map]; omega, _, rfl, .inl ⟨xs, rfl, decide (((nD (xs.map strOf) (xs.map strOf).length : Nat) : Int) = xs.length), rfl, ?_⟩⟩
          have e2 := nD_all (xs.map strOf)
          rw [List.length_map] at e2 ⊢
          rw [e2]
          exact q O' hs
  | _ => exact ifT (ifT (q O Sm.refl))
end Dm

set_option Elab.async false
set_option linter.all false
set_option maxRecDepth 100000
set_option maxHeartbeats 4000000
/-! Rules over the heap: a chain of three, a range held by a name, max and min of a tuple. -/
namespace Dm
open PySem PySem.Spec PyProof.Rows L2
def tChain3 (r1 r2 r3 : R2) (ta tb tc td : TE) : TE := fun σ H Q => ta σ H fun x H1 => tb σ H1 fun y H2 => r1 x y H2 fun z H3 => ∃ k, z = .bl k ∧ if k = true then tc σ H3 fun v H4 => r2 y v H4 fun z2 H5 => ∃ k2, z2 = .bl k2 ∧ if k2 = true then td σ H5 fun u H6 => r3 v u H6 Q else Q (.bl false) H5 else Q (.bl false) H3
theorem pe_chain3 {X : Cx} {a b c d : Expr} {ta tb tc td : TE} {pos : Pos} {o1 o2 o3 : CmpOp} {r1 r2 r3 : R2} (h1 : OpR X (compareOp o1) r1) (h2 : OpR X (compareOp o2) r2) (h3 : OpR X (compareOp o3) r3) (pa : PE X a ta) (pb : PE X b tb) (pc : PE X c tc) (pd : PE X d td)
    (hm : lastMarks [o1, o2, o3] [b, c, d] = false) : PE X (.Compare a [o1, o2, o3] [b, c, d] pos) (tChain3 r1 r2 r3 ta tb tc td) := by
  refine ⟨fun pins s σ H Q I h => Compare_chain (thn (pa.run pins s σ H _ I h) fun va s1 ⟨x, H1, I1, rx, q1⟩ => ?_) hm⟩
  refine chain_link (thn (pb.run pins s1 σ H1 _ I1 q1) fun vb s2 ⟨y, H2, I2, ry, q2⟩ => ?_)
  refine thn (h1 pins s2 σ H2 x y va vb _ I2 rx ry q2) fun vc s3 ⟨z, H3, I3, rz, k, hz, q3⟩ => ?_
  subst hz
  obtain rfl : vc = Value.bool k := rz
  refine wpAny_truthy_bool ?_
  cases k with
  | false => exact ⟨.bl false, H3, I3, rfl, q3⟩
  | true =>
    refine chain_link (thn (pc.run pins s3 σ H3 _ I3 q3) fun ve s4 ⟨w, H4, I4, rw4, q4⟩ => ?_)
    refine thn (h2 pins s4 σ H4 y w vb ve _ I4 ry rw4 q4) fun vf s5 ⟨z2, H5, I5, rz5, k2, hz, q5⟩ => ?_
    subst hz
    obtain rfl : vf = Value.bool k2 := rz5
    refine wpAny_truthy_bool ?_
    cases k2 with
    | false => exact ⟨.bl false, H5, I5, rfl, q5⟩
    | true =>
      refine chain_last (thn (pd.run pins s5 σ H5 _ I5 q5) fun vg s6 ⟨u, H6, I6, ru, q6⟩ => ?_)
      exact h3 pins s6 σ H6 w u ve vg _ I6 rw4 ru q6
/-- a range that a value holds -/
def iRngV (te : TE) : TI := fun σ H R => te σ H fun x H1 => ∃ p lo hi, x = .ref p ∧ H1 p = some (.rng lo hi) ∧ (-(2 ^ 62) ≤ lo ∧ lo < 2 ^ 62 ∧ -(2 ^ 62) ≤ hi ∧ hi < 2 ^ 62) ∧ R (Itr lo (hi - lo).toNat) H1
theorem small_one {a b : Int} (h1 : -(2 ^ 62) ≤ a) (h2 : a < 2 ^ 62) (h3 : -(2 ^ 62) ≤ b) (h4 : b < 2 ^ 62) : Builtin.Range.small a b 1 = true ∧ Builtin.Range.rangeSize a b 1 = ((b - a).toNat : Int) := by
  refine ⟨PySem.small_one h1 h2 h3 h4, ?_⟩
  unfold Builtin.Range.rangeSize
  rw [if_pos (by decide)]
  split
  · rw [Int.ediv_one]
    omega
  · omega
theorem pi_rngV {X : Cx} {tg e : Expr} {te : TE} (he : PE X e te) : PI X tg e (iRngV te) := by
  refine ⟨fun pins s σ H R I h => thn (he.run pins s σ H _ I h) fun v s1 ⟨x, H1, I1, r1, p, lo, hi, hx, hp, ⟨b1, b2, b3, b4⟩, q⟩ => ?_⟩
  subst hx
  obtain rfl : v = Value.ref p := r1
  obtain ⟨t, u, z, hq⟩ := (show ∃ t u v, s1.heap.get? p = some { cls := Value.type "range", data := Data.fields #[Value.int lo t, Value.int hi u, Value.int 1 v] } from I1.hok p _ hp)
  obtain ⟨hs, hn⟩ := small_one b1 b2 b3 b4
  refine wpAny_pyIter_range hq hs ?_
  rw [hn]
  have I2 : L2.Inv X pins σ H1 { heap := s1.heap.push { cls := Value.type "range_iterator", data := Data.fields #[rawInt lo, rawInt ((hi - lo).toNat : Int), rawInt 1] }, gens := s1.gens, drawn := s1.drawn, toks := s1.toks, os := s1.os } :=
    I1.kept fun b o e => Heap.get?_push_of_some _ e
  refine ⟨_, [s1.heap.objs.size], _, _, H1, rfl, I2, turn_range s1.heap.objs.size lo (hi - lo).toNat, ?_, fun b hb => ?_, q⟩
  · have e : lo + ((0 : Nat) : Int) * 1 = lo := by simp
    have e2 : (((hi - lo).toNat : Nat) : Int) - ((0 : Nat) : Int) = ((hi - lo).toNat : Int) := by simp
    show IsRangeIter _ _ _ _ _
    rw [e, e2]
    exact Heap.get?_push_size _ rfl
  · rw [List.mem_singleton] at hb
    subst hb
    exact I1.fpOk (Nat.le_refl _) I1.fresh
/-- sorted, of a tuple of ints -/
def rSortT (K : PySem.W.Frag) (vs : List V) (H : Hp) (Q : VK) : Prop := ∃ (a : Addr) (ns : List Int), vs = [V.ref a] ∧ SqT K H a (ns.map V.int) ∧ ns.length < 64 ∧ ∀ (ns' : List Int) (p : Addr), ns'.Perm ns → List.Pairwise (fun x y => x ≤ y) ns' → H p = none → Q (.ref p) (upd H p (.lst (ns'.map V.int)))
theorem cr_sortT1 {X : Cx} : CallR X (.builtin "sorted") (rSortT X.K) := by
  intro pins s σ H xs us Q I hv h
  obtain ⟨a, ns, rfl, hq, hl, q⟩ := h
  obtain rfl := hv.ref1
  obtain ⟨its, r, ⟨o, ho, hc, n, hd⟩, hz⟩ := I.tuple hq
  have hi := r.ints
  have hlen : its.length = ns.length := by
    have := r.length
    rw [List.length_map] at this
    exact this.symm
  refine Calls.call_function_entry kind_sorted plain_sorted entry_sorted (args_sorted1 _) ?_
  show wpAny _ _ (do
    checkCount "sorted" 1 1 1
    let l0 ← collect (Value.ref a)
    let l ← newList l0
    let _ ← holding [l] (call (Value.builtin "list.sort") [l] [])
    ret l) _ _ _
  refine wpAny_bind (wpAny_pure (wpAny_bind (wpAny_collect_seq a (T := "tuple") (.inr rfl) ho hc hd (fun h1 k1 => ?_) (by rw [List.size_toArray, hlen, sizeLine_eq]; omega))))
  refine wpAny_bind (wpAny_newList ?_ (by rw [show its.toArray.toList = its from rfl, hlen, sizeLine_eq]; omega))
  have hget : (h1.push { cls := Value.type "list", data := Data.seq its.toArray }).get? h1.objs.size = some (seqObj "list" its.toArray 0) := Heap.get?_push_size _ rfl
  refine wpAny_bind (wpAny_holding (wpAny_call_entry (T := "list") slot_list_sort ⟨_, hget, rfl⟩ entry_list_sort ?_ (args_list_sort _)))
  refine list_sort_tree hget hi (by rw [hlen]; exact hl) fun out ns' ho' hp hs => ⟨_, rfl, wpAny_pure ⟨_, rfl, ?_⟩⟩
  have I2 := I.kept (t' := s.toks) k1
  obtain ⟨e, he⟩ := sortedHeap_at (out := out) hget
  have old : ∀ (b : Addr) (u : Obj), h1.get? b = some u → (sortedHeap (h1.push { cls := Value.type "list", data := Data.seq its.toArray }) h1.objs.size its out).get? b = some u := fun b u hb => by
    have hlt := Heap.lt_size hb
    rw [sortedHeap_old (Nat.ne_of_lt hlt) (by rw [size_push']; exact Nat.lt_trans hlt (Nat.lt_succ_self _))]
    exact Heap.get?_push_of_some _ hb
  have hp0 : H h1.objs.size = none := I2.fresh
  have hl' : ns'.length = ns.length := hp.length_eq
  have hok : ObjOk X.prog X.w (upd H h1.objs.size (.lst (ns'.map V.int))) (sortedHeap (h1.push { cls := Value.type "list", data := Data.seq its.toArray }) h1.objs.size its out) h1.objs.size (.lst (ns'.map V.int)) := by
    refine ⟨by rw [List.length_map, hl', sizeLine_eq]; omega, out.toList, e, vals_of_ints ho', ?_⟩
    rw [he]
  exact ⟨.ref h1.objs.size, _, I2.laid old (Nat.le_refl _) hok, rfl, q ns' _ hp hs hp0⟩
theorem vals_at {xs : List V} {us : List Value} (h : Vals xs us) {i : Nat} {v : Value} (e : us[i]? = some v) : ∃ x, xs[i]? = some x ∧ RelV x v := by
  induction h generalizing i with
  | nil => simp at e
  | cons r t ih =>
    cases i with
    | zero => simp at e; subst e; exact ⟨_, rfl, r⟩
    | succ i => simpa using ih (by simpa using e)
/-- max, min of a tuple of ints -/
def rMaxT (K : PySem.W.Frag) (vs : List V) (H : Hp) (Q : VK) : Prop := ∃ (a : Addr) (ns : List Int), vs = [V.ref a] ∧ SqT K H a (ns.map V.int) ∧ 0 < ns.length ∧ ∀ m, m ∈ ns → (∀ y, y ∈ ns → y ≤ m) → Q (.int m) H
def rMinT (K : PySem.W.Frag) (vs : List V) (H : Hp) (Q : VK) : Prop := ∃ (a : Addr) (ns : List Int), vs = [V.ref a] ∧ SqT K H a (ns.map V.int) ∧ 0 < ns.length ∧ ∀ m, m ∈ ns → (∀ y, y ∈ ns → m ≤ y) → Q (.int m) H
theorem cr_minT {X : Cx} (hc : X.calm = true) : CallR X (.builtin "min") (rMinT X.K) := by
  intro pins s σ H xs us Q I hv h
  obtain ⟨a, ns, rfl, hq, hl, q⟩ := h
  obtain rfl := hv.ref1
  obtain ⟨its, r, tup, hz⟩ := I.tuple hq
  have hlen : its.length = ns.length := by
    have := r.length
    rw [List.length_map] at this
    exact this.symm
  have hP : ∀ (i : Nat) (v : Value), its.toArray[i]? = some v → ∃ t, v = Value.int (ns.getD i 0) t := fun i v e => by
    obtain ⟨x, hx, rx⟩ := vals_at r (by simpa using e)
    rw [List.getElem?_map] at hx
    cases h : ns[i]? with
    | none => rw [h] at hx; cases hx
    | some z =>
      rw [h] at hx
      cases hx
      obtain ⟨t, rfl⟩ := rx
      refine ⟨t, ?_⟩
      rw [List.getD, h]
      rfl
  have hlt : a < s.heap.objs.size := by
    obtain ⟨o, ho, _⟩ := tup
    exact Heap.lt_size ho
  refine call_min_walk (wpAny_pyIter_tuple tup ?_)
  have kp : ∀ (b : Addr) (o : Obj), s.heap.get? b = some o → (s.heap.push { cls := Value.type "tuple_iterator", data := Data.fields #[Value.ref a, Value.int 0 0] }).get? b = some o := fun b o e => Heap.get?_push_of_some _ e
  refine ⟨_, _, _, _, _, _, _, rfl, Walks.tuple (A := X.A.in1) (show X.A.in1.handled = none from I.ok.hd hc) s.heap.objs.size a (Nat.ne_of_lt hlt) its.toArray, ⟨?_, ?_⟩, ?_, ?_, CmpOf.ints_lt (fun i => ns.getD i 0) hP, fun v h' tk hv kp2 => ?_⟩
  · exact ⟨_, Heap.get?_push_size _ rfl, rfl, rfl⟩
  · obtain ⟨o, ho, r⟩ := tup
    exact ⟨o, kp _ _ ho, r⟩
  · intro b hb
    rw [size_push']
    simp only [List.mem_cons, List.not_mem_nil, or_false] at hb
    rcases hb with rfl | rfl
    · exact Nat.lt_succ_self _
    · exact Nat.lt_trans hlt (Nat.lt_succ_self _)
  · rw [List.size_toArray, hlen]
    exact hl
  · obtain ⟨t, rfl⟩ := hP _ v hv
    rw [List.size_toArray, hlen] at *
    obtain ⟨b1, b2⟩ := argBest_lt (fun i => ns.getD i 0) (ns.length - 1)
    refine ⟨.int _, H, I.kept (fun b o e => kp2 b o ?_ (kp b o e)), ⟨t, rfl⟩, q _ ?_ fun y hy => ?_⟩
    · intro z
      rw [List.mem_singleton] at z
      have := Heap.lt_size e
      exact Nat.ne_of_lt this z
    · have hb : argBest _ (ns.length - 1) < ns.length := Nat.lt_of_le_of_lt b1 (by omega)
      rw [List.getD, List.getElem?_eq_getElem hb]
      exact List.getElem_mem _
    · obtain ⟨j, hj, rfl⟩ := List.getElem_of_mem hy
      have := b2 j (by omega)
      simp only [List.getD, List.getElem?_eq_getElem hj, Option.getD_some] at this ⊢
      exact this
theorem cr_maxT {X : Cx} (hc : X.calm = true) : CallR X (.builtin "max") (rMaxT X.K) := by
  intro pins s σ H xs us Q I hv h
  obtain ⟨a, ns, rfl, hq, hl, q⟩ := h
  obtain rfl := hv.ref1
  obtain ⟨its, r, tup, hz⟩ := I.tuple hq
  have hlen : its.length = ns.length := by
    have := r.length
    rw [List.length_map] at this
    exact this.symm
  have hP : ∀ (i : Nat) (v : Value), its.toArray[i]? = some v → ∃ t, v = Value.int (ns.getD i 0) t := fun i v e => by
    obtain ⟨x, hx, rx⟩ := vals_at r (by simpa using e)
    rw [List.getElem?_map] at hx
    cases h : ns[i]? with
    | none => rw [h] at hx; cases hx
    | some z =>
      rw [h] at hx
      cases hx
      obtain ⟨t, rfl⟩ := rx
      refine ⟨t, ?_⟩
      rw [List.getD, h]
      rfl
  have hlt : a < s.heap.objs.size := by
    obtain ⟨o, ho, _⟩ := tup
    exact Heap.lt_size ho
  refine call_max_walk (wpAny_pyIter_tuple tup ?_)
  have kp : ∀ (b : Addr) (o : Obj), s.heap.get? b = some o → (s.heap.push { cls := Value.type "tuple_iterator", data := Data.fields #[Value.ref a, Value.int 0 0] }).get? b = some o := fun b o e => Heap.get?_push_of_some _ e
  refine ⟨_, _, _, _, _, _, _, rfl, Walks.tuple (A := X.A.in1) (show X.A.in1.handled = none from I.ok.hd hc) s.heap.objs.size a (Nat.ne_of_lt hlt) its.toArray, ⟨?_, ?_⟩, ?_, ?_, CmpOf.ints_gt (fun i => ns.getD i 0) hP, fun v h' tk hv kp2 => ?_⟩
  · exact ⟨_, Heap.get?_push_size _ rfl, rfl, rfl⟩
  · obtain ⟨o, ho, r⟩ := tup
    exact ⟨o, kp _ _ ho, r⟩
  · intro b hb
    rw [size_push']
    simp only [List.mem_cons, List.not_mem_nil, or_false] at hb
    rcases hb with rfl | rfl
    · exact Nat.lt_succ_self _
    · exact Nat.lt_trans hlt (Nat.lt_succ_self _)
  · rw [List.size_toArray, hlen]
    exact hl
  · obtain ⟨t, rfl⟩ := hP _ v hv
    rw [List.size_toArray, hlen] at *
    obtain ⟨b1, b2⟩ := argBest_gt (fun i => ns.getD i 0) (ns.length - 1)
    refine ⟨.int _, H, I.kept (fun b o e => kp2 b o ?_ (kp b o e)), ⟨t, rfl⟩, q _ ?_ fun y hy => ?_⟩
    · intro z
      rw [List.mem_singleton] at z
      have := Heap.lt_size e
      exact Nat.ne_of_lt this z
    · have hb : argBest _ (ns.length - 1) < ns.length := Nat.lt_of_le_of_lt b1 (by omega)
      rw [List.getD, List.getElem?_eq_getElem hb]
      exact List.getElem_mem _
    · obtain ⟨j, hj, rfl⟩ := List.getElem_of_mem hy
      have := b2 j (by omega)
      simp only [List.getD, List.getElem?_eq_getElem hj, Option.getD_some] at this ⊢
      exact this
end Dm

set_option Elab.async false
set_option linter.all false
set_option maxRecDepth 100000
set_option maxHeartbeats 4000000
/-! Rules over the heap: repr of data. -/
namespace Dm
open PySem PySem.Spec PyProof.Rows L2
def rRepr (K : PySem.W.Frag) (vs : List V) (H : Hp) (Q : VK) : Prop := ∃ (x : V) (d : PyData), vs = [x] ∧ Dp K H x d ∧ (x = .non ∨ ∃ a, x = .ref a) ∧ d.showable = true ∧ d.hasDict = false ∧ d.depth ≤ 64 ∧ d.shown.length ≤ sizeLine ∧ Q (.str d.shown) H
theorem cr_repr {X : Cx} (hg : X.A.guards = some []) (hu : X.A.units + 65 < cLine) : CallR X (.builtin "repr") (rRepr X.K) := by
  intro pins s σ H xs us Q I hv h
  obtain ⟨x, d, rfl, hd, hx, h1, h2, h3, h4, q⟩ := h
  obtain ⟨u, rfl, ru⟩ := vals1 hv
  rcases hx with rfl | ⟨a, rfl⟩
  · obtain rfl : u = Value.none := ru
    cases hd
    exact P.repr_of_none ⟨.str (PyData.shown .none), H, I.tok _, ⟨_, rfl⟩, q⟩
  · obtain rfl : u = Value.ref a := ru
    obtain ⟨as, hr⟩ := Dp.reads I d _ _ hd (show RelV (.ref a) (Value.ref a) from rfl)
    exact PySem.repr_of_reads' hr h1 (PyData.noDict_hsm h2) hg (by omega) (fun b o e => e) (fun h' t tk k => ⟨.str d.shown, H, I.kept k, ⟨_, rfl⟩, q⟩) h4
end Dm

set_option Elab.async false
set_option linter.all false
set_option maxRecDepth 100000
set_option maxHeartbeats 4000000
/-! Rules over the heap: min of a list of tuples of ints. -/
namespace Dm
open PySem PySem.Spec PyProof.Rows L2
theorem rich_lt_tup {prog : Program} {w : World} {A : Around} {E : Value → Shared → Prop} {s : Shared} {a b : Addr} {ia ib : Array Value} {ns ms : List Int} {Q : Value → Shared → Prop} (ha : s.heap.IsTuple a ia) (hb : s.heap.IsTuple b ib) (na : IntsAre ia.toList ns) (nb : IntsAre ib.toList ms) (hu : A.units < cLine)
    (q : Q (.bool (HT.lexLt ns ms)) s) : wpAny (model prog w) A (richCompare .Lt (.ref a) (.ref b)) Q E s := by
  obtain ⟨o, ho, hc, n, hd⟩ := ha
  obtain ⟨o2, ho2, hc2, n2, hd2⟩ := hb
  obtain ⟨cls, dict, data, slots⟩ := o
  obtain ⟨cls2, dict2, data2, slots2⟩ := o2
  cases hc; cases hd; cases hc2; cases hd2
  refine richCompare_meets_room (T := "tuple") ⟨_, ho, rfl⟩ ⟨_, ho2, rfl⟩ F.slot_tuple_lt F.entry_tuple_lt (F.args_tuple_lt_2 _ _) (HT.tuple_lt_ints a b ia ib n n2 dict dict2 slots slots2 ns ms na nb) ⟨ho, ho2, ?_⟩ hu
  exact ⟨(fun z => nomatch z), q⟩
theorem min_loopX {prog : Program} {w : World} {A : Around} {R : Result → Shared → Prop} {I : Addr} {fp wr : List Addr} {n : Nat} {P : Nat → Value → Prop} {St : Nat → Heap → Prop} {G : Heap → Prop} (W : Walks prog w A.in1 I fp wr n P St) (bt : Nat → Nat → Bool)
    (hcmp : ∀ (i j : Nat) (vi vj : Value) (s : Shared) (Q E : Value → Shared → Prop), G s.heap → P i vi → P j vj → Q (.bool (bt i j)) s → wpAny (model prog w) A.in1 (richCompare .Lt vi vj) Q E s) (S : Addr)
    (hG : ∀ h h' : Heap, G h → (∀ b o, b ∉ wr → b ≠ S → h.get? b = some o → h'.get? b = some o) → G h') (hS : S ∉ fp) : ∀ (k j : Nat) (s : Shared) (vb : Value) (c : Nat), n - (j + 1) = k → j + 1 ≤ n → St (j + 1) s.heap → G s.heap → P (argBest bt j) vb →
      s.heap.get? S = some { cls := Value.type "list", data := Data.seq #[vb, vb] c } →
      (∀ (v : Value) (h' : Heap) (tk : Nat), P (argBest bt (n - 1)) v → (∀ b o, b ∉ wr → b ≠ S → s.heap.get? b = some o → h'.get? b = some o) → R (.ok (.ret v)) { heap := h', gens := s.gens, drawn := s.drawn, toks := tk, os := s.os }) →
      codeAny (model prog w) A (.builtin "min.loop" { pos := [.ref I, .none, .ref S] }) R s := by
  intro k
  induction k with
  | zero =>
    intro j s vb c hk hj hst hg hp hs fin
    have ej : j + 1 = n := by omega
    refine codeAny_builtin F.entry_min_loop ?_
    rw [Around.under_plainId F.plain_min_loop]
    refine wpAny_bind (wpAny_seqItems hs rfl ?_)
    refine wpAny_bind (wpAny_tryCatch ?_)
    rw [ej] at hst
    refine W.done s _ _ hst fun h' tk kp => ?_
    have hs' : h'.get? S = some { cls := Value.type "list", data := Data.seq #[vb, vb] c } := kp S _ (fun z => hS (W.sub S z)) hs
    refine wpAny_bind (wpAny_updateSeq hs' rfl (wpAny_bind (wpAny_letGo (wpAny_pure ?_))) (by show 2 ≤ _; rw [sizeLine_eq]; omega) (by show 0 ≤ _; omega))
    have e : n - 1 = j := by omega
    rw [e] at fin
    exact fin vb _ _ hp fun b o n1 n2 e => by
      exact (Heap.get?_update_other _ _ n2.symm).trans (kp b o n1 e)
  | succ k ih =>
    intro j s vb c hk hj hst hg hp hs fin
    refine codeAny_builtin F.entry_min_loop ?_
    rw [Around.under_plainId F.plain_min_loop]
    refine wpAny_bind (wpAny_seqItems hs rfl ?_)
    refine wpAny_bind (wpAny_tryCatch ?_)
    refine W.item (j + 1) s _ _ (by omega) hst fun v h' tk pv st' kp => ?_
    have hg' : G h' := hG _ _ hg fun b o n1 n2 e => kp b o n1 e
    have hs' : h'.get? S = some { cls := Value.type "list", data := Data.seq #[vb, vb] c } := kp S _ (fun z => hS (W.sub S z)) hs
    refine wpAny_bind (wpAny_pure ?_)
    refine wpAny_bind (wpAny_tryCatch (wpAny_holding (wpAny_bind (hcmp (j + 1) (argBest bt j) v vb _ _ _ hg' pv hp ?_))))
    refine wpAny_bind (wpAny_holding (wpAny_truthy_bool (wpAny_bind (wpAny_letGo (wpAny_pure ?_)))))
    cases hb : bt (j + 1) (argBest bt j) with
    | true =>
      have hp' : P (argBest bt (j + 1)) v := by
        rw [argBest, hb, if_pos rfl]
        exact pv
      refine wpAny_bind (wpAny_updateSeq hs' rfl (wpAny_bind (wpAny_letGo (wpAny_pure ⟨plainId_quiet F.plain_min_loop _, ?_⟩))) (by show 2 ≤ _; rw [sizeLine_eq]; omega) (by show 2 ≤ _; rw [sizeLine_eq]; omega))
      have sz : (Obj.mapSeq (fun _ => #[v, v]) { cls := Value.type "list", data := Data.seq #[vb, vb] c }) = { cls := Value.type "list", data := Data.seq #[v, v] c } := rfl
      have keep : ∀ b o, b ∉ wr → b ≠ S → s.heap.get? b = some o → (h'.update S (Obj.mapSeq fun _ => #[v, v])).get? b = some o := fun b o n1 n2 e => (Heap.get?_update_other _ _ n2.symm).trans (kp b o n1 e)
      refine ih (j + 1) { heap := h'.update S (Obj.mapSeq fun _ => #[v, v]), gens := s.gens, drawn := s.drawn, toks := tk, os := s.os } v c (by omega) (by omega) ?_ (hG _ _ hg keep) hp' ?_ fun v2 h2 tk2 pv2 k2 => ?_
      · exact W.frame (j + 1 + 1) _ _ st' fun b hb2 o e => (Heap.get?_update_other _ _ (fun z => hS (by rw [z]; exact hb2))).trans e
      · exact (Heap.get?_update_self _ hs' rfl).trans (by rw [sz])
      · exact fin v2 h2 tk2 pv2 fun b o n1 n2 e => k2 b o n1 n2 (keep b o n1 n2 e)
    | false =>
      have hp' : P (argBest bt (j + 1)) vb := by
        rw [argBest, hb, if_neg (by decide)]
        exact hp
      refine wpAny_bind (wpAny_letGo (wpAny_pure ⟨plainId_quiet F.plain_min_loop _, ?_⟩))
      refine ih (j + 1) { heap := h', gens := s.gens, drawn := s.drawn, toks := tk, os := s.os } vb c (by omega) (by omega) st' hg' hp' hs' fun v h2 tk2 pv2 k2 => ?_
      exact fin v h2 tk2 pv2 fun b o n1 n2 e => k2 b o n1 n2 (kp b o n1 e)
theorem min_firstX {prog : Program} {w : World} {A : Around} {R : Result → Shared → Prop} {I : Addr} {fp wr : List Addr} {n : Nat} {P : Nat → Value → Prop} {St : Nat → Heap → Prop} {G : Heap → Prop} (W : Walks prog w A.in1 I fp wr n P St) (bt : Nat → Nat → Bool)
    (hcmp : ∀ (i j : Nat) (vi vj : Value) (s : Shared) (Q E : Value → Shared → Prop), G s.heap → P i vi → P j vj → Q (.bool (bt i j)) s → wpAny (model prog w) A.in1 (richCompare .Lt vi vj) Q E s) (S : Addr)
    (hG : ∀ h h' : Heap, G h → (∀ b o, b ∉ wr → b ≠ S → h.get? b = some o → h'.get? b = some o) → G h') (hS : S ∉ fp) (hn : 0 < n) {s : Shared} {c : Nat} (hst : St 0 s.heap) (hg : G s.heap) (hs : s.heap.get? S = some { cls := Value.type "list", data := Data.seq #[] c })
    (fin : ∀ (v : Value) (h' : Heap) (tk : Nat), P (argBest bt (n - 1)) v → (∀ b o, b ∉ wr → b ≠ S → s.heap.get? b = some o → h'.get? b = some o) → R (.ok (.ret v)) { heap := h', gens := s.gens, drawn := s.drawn, toks := tk, os := s.os }) :
      codeAny (model prog w) A (.builtin "min.loop" { pos := [.ref I, .none, .ref S] }) R s := by
  refine codeAny_builtin F.entry_min_loop ?_
  rw [Around.under_plainId F.plain_min_loop]
  refine wpAny_bind (wpAny_seqItems hs rfl ?_)
  refine wpAny_bind (wpAny_tryCatch ?_)
  refine W.item 0 s _ _ hn hst fun v h' tk pv st' kp => ?_
  have hs' : h'.get? S = some { cls := Value.type "list", data := Data.seq #[] c } := kp S _ (fun z => hS (W.sub S z)) hs
  refine wpAny_bind (wpAny_pure ?_)
  refine wpAny_bind (wpAny_updateSeq hs' rfl (wpAny_pure ⟨plainId_quiet F.plain_min_loop _, ?_⟩) (by show 0 ≤ _; omega) (by show 2 ≤ _; rw [sizeLine_eq]; omega))
  have sz : (Obj.mapSeq (fun _ => #[v, v]) { cls := Value.type "list", data := Data.seq #[] c }) = { cls := Value.type "list", data := Data.seq #[v, v] (c + 1) } := rfl
  have keep : ∀ b o, b ∉ wr → b ≠ S → s.heap.get? b = some o → (h'.update S (Obj.mapSeq fun _ => #[v, v])).get? b = some o := fun b o n1 n2 e => (Heap.get?_update_other _ _ n2.symm).trans (kp b o n1 e)
  refine min_loopX W bt hcmp S hG hS (n - 1) 0 { heap := h'.update S (Obj.mapSeq fun _ => #[v, v]), gens := s.gens, drawn := s.drawn, toks := tk, os := s.os } v (c + 1) rfl (by omega) ?_ (hG _ _ hg keep) pv ?_ fun v2 h2 tk2 pv2 k2 => ?_
  · exact W.frame (0 + 1) _ _ st' fun b hb2 o e => (Heap.get?_update_other _ _ (fun z => hS (by rw [z]; exact hb2))).trans e
  · exact (Heap.get?_update_self _ hs' rfl).trans (by rw [sz])
  · exact fin v2 h2 tk2 pv2 fun b o n1 n2 e => k2 b o n1 n2 (keep b o n1 n2 e)
theorem call_minX {prog : Program} {w : World} {A : Around} {E : Value → Shared → Prop} {s : Shared} {x : Value} {Q : Value → Shared → Prop} (h : wpAny (model prog w) A.in1 (pyIter x) (fun it s₂ => ∃ (I : Addr) (fp wr : List Addr) (n : Nat) (P : Nat → Value → Prop) (St : Nat → Heap → Prop) (bt : Nat → Nat → Bool) (G : Heap → Prop), it = .ref I ∧ Walks prog w A.in1 I fp wr n P St ∧ St 0 s₂.heap ∧ (∀ b, b ∈ fp → b < s₂.heap.objs.size) ∧ 0 < n ∧
      (∀ (i j : Nat) (vi vj : Value) (s : Shared) (Q E : Value → Shared → Prop), G s.heap → P i vi → P j vj → Q (.bool (bt i j)) s → wpAny (model prog w) A.in1 (richCompare .Lt vi vj) Q E s) ∧
      (∀ h h' : Heap, G h → (∀ b o, b ∉ wr → b < s₂.heap.objs.size → h.get? b = some o → h'.get? b = some o) → G h') ∧ G s₂.heap ∧
      ∀ (v : Value) (h' : Heap) (tk : Nat), P (argBest bt (n - 1)) v → (∀ b o, b ∉ wr → s₂.heap.get? b = some o → h'.get? b = some o) → Q v { heap := h', gens := s₂.gens, drawn := s₂.drawn, toks := tk, os := s₂.os }) E s) : wpAny (model prog w) A (call (.builtin "min") [x]) Q E s := by
  refine call_function_tree F.kind_min F.plain_min F.entry_min (F.args_min1 _) ?_
  refine wpAny_bind (wpAny_of_eq (a := [none, none]) rfl (wpAny_bind (wpAny_pure (wpAny_bind (wpAny_mono h (fun it s2 hs => ?_) fun e s' z => z)))))
  obtain ⟨I, fp, wr, n, P, St, bt, G, rfl, W, hst, hfp, hn, hcmp, hG, hg, fin⟩ := hs
  refine wpAny_bind (wpAny_newList ?_ (by show 0 ≤ _; omega))
  refine wpAny_pure ⟨plainId_quiet F.plain_min_loop _, ?_⟩
  have hp : ∀ b o, s2.heap.get? b = some o → (s2.heap.push { cls := Value.type "list", data := Data.seq #[] }).get? b = some o := fun b o e => Heap.get?_push_of_some _ e
  refine min_firstX (G := fun h => ∃ h0, G h0 ∧ ∀ b o, b ∉ wr → b < s2.heap.objs.size → h0.get? b = some o → h.get? b = some o) W bt (fun i j vi vj s Q E hg pi pj q => ?_) s2.heap.objs.size (fun h h' hg k => ?_) (fun z => Nat.lt_irrefl _ (hfp _ z)) hn (W.frame 0 _ _ hst fun b _ o e => hp b o e) ⟨_, hg, fun b o _ _ e => hp b o e⟩ (Heap.get?_push_size _ rfl) fun v h' tk pv k => ?_
  · obtain ⟨h0, g0, k0⟩ := hg
    exact hcmp i j vi vj s Q E (hG _ _ g0 k0) pi pj q
  · obtain ⟨h0, g0, k0⟩ := hg
    exact ⟨h0, g0, fun b o n1 n2 e => k b o n1 (Nat.ne_of_lt n2) (k0 b o n1 n2 e)⟩
  · exact fin v h' tk pv fun b o n1 e => k b o n1 (Nat.ne_of_lt (Heap.lt_size e)) (hp b o e)
theorem lexLt_nil (ys : List Int) : HT.lexLt [] ys = !ys.isEmpty := by cases ys <;> rfl
theorem lexLt_nil2 (xs : List Int) : HT.lexLt xs [] = false := by cases xs <;> rfl
theorem lexLt_cons (x y : Int) (xs ys : List Int) : HT.lexLt (x :: xs) (y :: ys) = if x = y then HT.lexLt xs ys else decide (x < y) := rfl
theorem lexLt_trans : ∀ (a b c : List Int), HT.lexLt a b = true → HT.lexLt b c = true → HT.lexLt a c = true
  | _, _, [], _, h => by rw [lexLt_nil2] at h; cases h
  | _, [], _ :: _, h, _ => by rw [lexLt_nil2] at h; cases h
  | [], _ :: _, _ :: _, _, _ => rfl
  | x :: a, y :: b, z :: c, h, h' => by
    rw [lexLt_cons] at h h' ⊢
    split at h
    · split at h'
      · rw [if_pos (by omega)]
        exact lexLt_trans a b c h h'
      · have := of_decide_eq_true h'
        rw [if_neg (by omega)]
        exact decide_eq_true (by omega)
    · have := of_decide_eq_true h
      split at h'
      · rw [if_neg (by omega)]
        exact decide_eq_true (by omega)
      · have := of_decide_eq_true h'
        rw [if_neg (by omega)]
        exact decide_eq_true (by omega)
theorem lexLt_irr : ∀ a : List Int, HT.lexLt a a = false
  | [] => rfl
  | x :: a => by rw [lexLt_cons, if_pos rfl, lexLt_irr a]
theorem argBest_lex (L : Nat → List Int) (k : Nat) : argBest (fun i j => HT.lexLt (L i) (L j)) k ≤ k ∧ ∀ j, j ≤ k → HT.lexLt (L j) (L (argBest (fun i j => HT.lexLt (L i) (L j)) k)) = false := by
  induction k with
  | zero => exact ⟨Nat.le_refl _, fun j h => by
      have : j = 0 := by omega
      subst this
      exact lexLt_irr _⟩
  | succ k ih =>
    obtain ⟨h1, h2⟩ := ih
    rw [argBest]
    cases hb : HT.lexLt (L (k + 1)) (L (argBest (fun i j => HT.lexLt (L i) (L j)) k)) with
    | true =>
      rw [if_pos rfl]
      refine ⟨Nat.le_refl _, fun j hj => ?_⟩
      by_cases e : j = k + 1
      · subst e
        exact lexLt_irr _
      · cases h : HT.lexLt (L j) (L (k + 1)) with
        | false => rfl
        | true =>
          have := lexLt_trans _ _ _ h hb
          rw [h2 j (by omega)] at this
          cases this
    | false =>
      rw [if_neg (by decide)]
      refine ⟨by omega, fun j hj => ?_⟩
      by_cases e : j = k + 1
      · subst e
        exact hb
      · exact h2 j (by omega)
/-- min of a list of tuples of ints -/
def rMinTs (K : PySem.W.Frag) (vs : List V) (H : Hp) (Q : VK) : Prop := ∃ (a : Addr) (xs : List V) (L : List (List Int)), vs = [V.ref a] ∧ SqL K H a xs ∧ xs.length = L.length ∧ (∀ (i : Nat) (x : V) (ns : List Int), xs[i]? = some x → L[i]? = some ns → ∃ t, x = .ref t ∧ SqT K H t (ns.map V.int)) ∧ 0 < L.length ∧
  ∀ (i : Nat) (x : V) (ns : List Int), xs[i]? = some x → L[i]? = some ns → (∀ ms ∈ L, HT.lexLt ms ns = false) → Q x H
theorem cr_minTs {X : Cx} (hc : X.calm = true) (hu : X.A.units + 3 < cLine) : CallR X (.builtin "min") (rMinTs X.K) := by
  intro pins s σ H xs us Q I hv h
  obtain ⟨a, ys, L, rfl, hq, hL, hT, hl, q⟩ := h
  obtain rfl := hv.ref1
  obtain ⟨its, r, pl, hz⟩ := I.list hq
  have hlen : its.length = L.length := r.length.symm.trans hL
  have pl' := pl.isList
  have hlt : a < s.heap.objs.size := by
    obtain ⟨o, n, ho, _⟩ := pl
    exact Heap.lt_size ho
  have hI : ∀ (i : Nat) (v : Value), its.toArray[i]? = some v → ∃ t ia, v = .ref t ∧ s.heap.IsTuple t ia ∧ IntsAre ia.toList (L.getD i []) := fun i v e => by
    obtain ⟨x, hx, rx⟩ := vals_at r (by simpa using e)
    have hi : i < L.length := by
      rw [← hL]
      exact (List.getElem?_eq_some_iff.mp hx).1
    obtain ⟨t, rfl, ht⟩ := hT i x _ hx (List.getElem?_eq_getElem hi)
    obtain ⟨ta, rt, tt, _⟩ := I.tuple ht
    refine ⟨t, ta.toArray, rx, tt, ?_⟩
    have := rt.ints
    rw [List.getD, List.getElem?_eq_getElem hi]
    exact this
  refine call_minX (wpAny_pyIter_list pl' ?_)
  have kp : ∀ (b : Addr) (o : Obj), s.heap.get? b = some o → (s.heap.push { cls := Value.type "list_iterator", data := Data.fields #[Value.ref a, Value.int 0 0] }).get? b = some o := fun b o e => Heap.get?_push_of_some _ e
  refine ⟨_, _, _, _, _, _, fun i j => HT.lexLt (L.getD i []) (L.getD j []), fun h => ∀ (t : Addr) (ia : Array Value), s.heap.IsTuple t ia → h.IsTuple t ia, rfl, Walks.list (A := X.A.in1) (show X.A.in1.handled = none from I.ok.hd hc) s.heap.objs.size a (Nat.ne_of_lt hlt) its.toArray, ⟨?_, ?_⟩, ?_, ?_, fun i j vi vj s2 Q E hg pi pj q => ?_, fun h h' hg k t ia ht => ?_, fun t ia ht => ?_, fun v h' tk pv k => ?_⟩
  · exact ⟨_, Heap.get?_push_size _ rfl, rfl, rfl⟩
  · obtain ⟨o, n, ho, h1, h2, h3⟩ := pl
    exact PlainL.isList ⟨o, n, kp _ _ ho, h1, h2, h3⟩
  · intro b hb
    rw [size_push']
    simp only [List.mem_cons, List.not_mem_nil, or_false] at hb
    rcases hb with rfl | rfl
    · exact Nat.lt_succ_self _
    · exact Nat.lt_trans hlt (Nat.lt_succ_self _)
  · rw [List.size_toArray, hlen]
    exact hl
  · obtain ⟨t, ia, rfl, h1, h2⟩ := hI i vi pi
    obtain ⟨u, ib, rfl, h3, h4⟩ := hI j vj pj
    exact rich_lt_tup (hg t ia h1) (hg u ib h3) h2 h4 (by show X.A.units + 1 < cLine; omega) q
  · obtain ⟨o, ho, r1⟩ := hg t ia ht
    obtain ⟨o0, ho0, _⟩ := ht
    have hlt0 := Heap.lt_size ho0
    refine ⟨o, k t o ?_ ?_ ho, r1⟩
    · intro z
      rw [List.mem_singleton] at z
      exact Nat.ne_of_lt hlt0 z
    · rw [size_push']
      exact Nat.lt_trans hlt0 (Nat.lt_succ_self _)
  · obtain ⟨o, ho, r1⟩ := ht
    exact ⟨o, kp _ _ ho, r1⟩
  · have hn : its.toArray.size = L.length := by rw [List.size_toArray, hlen]
    rw [hn] at pv
    obtain ⟨b1, b2⟩ := argBest_lex (fun i => L.getD i []) (L.length - 1)
    have hb : argBest (fun i j => HT.lexLt (L.getD i []) (L.getD j [])) (L.length - 1) < L.length := Nat.lt_of_le_of_lt b1 (by omega)
    obtain ⟨x, hx, rx⟩ := vals_at r (by simpa using pv)
    refine ⟨x, H, I.kept (fun b o e => k b o ?_ (kp b o e)), rx, q _ x _ hx (List.getElem?_eq_getElem hb) fun ms hm => ?_⟩
    · intro z
      rw [List.mem_singleton] at z
      exact Nat.ne_of_lt (Heap.lt_size e) z
    · obtain ⟨j, hj, rfl⟩ := List.getElem_of_mem hm
      have := b2 j (by omega)
      have ge : ∀ {i : Nat} (hi : i < L.length), L.getD i [] = L[i] := fun {i} hi => by rw [List.getD, List.getElem?_eq_getElem hi]; rfl
      rw [ge hj, ge hb] at this
      exact this
end Dm

set_option Elab.async false
set_option linter.all false
set_option maxRecDepth 100000
set_option maxHeartbeats 4000000
/-! The data machine: ranges as values, ranges with a step, a chain of three, sorted/max/min of tuples, in of data, repr, min of tuples. -/
namespace Dm
open PySem PySem.Spec PyProof.Rows L2
theorem Jn.newF {K : PySem.W.Frag} {F H : Hp} {θ : List Addr} {O : Sto} (j : Jn K F H θ O) {p : Addr} {o : HO} (h : H p = none) : Jn K (L2.upd F p o) (L2.upd H p o) θ O := by
  refine ⟨fun a o e => ?_, j.len, j.nd, fun k a c e1 e2 => ?_, fun k a e => ?_⟩
  · by_cases q : a = p
    · subst q
      rw [upd_same] at e ⊢
      exact e
    · rw [upd_ne q] at e ⊢
      exact j.sub a o e
  · have q := j.nin h e1
    exact (j.ok k a c e1 e2).stay (Gr.upd (j.freeF h)) (fun f _ => by rw [upd_ne q]; exact f) fun o e => by rw [upd_ne q]; exact e
  · rw [upd_ne (j.nin h e)]
    exact j.kno k a e
theorem RW.rng_inv {K : PySem.W.Frag} {F : Hp} {θ : List Addr} {v : V} {lo hi : Int} (r : RW K F θ v (.rng lo hi)) : ∃ a, v = .ref a ∧ F a = some (.rng lo hi) := by
  cases r with
  | rng h => exact ⟨_, rfl, h⟩
/-! ### ranges -/
theorem cr_range1 {X : Cx} : CallR X (.type "range") (fun vs H Q => ∃ j, vs = [V.int j] ∧ ∀ p, H p = none → Q (.ref p) (L2.upd H p (.rng 0 j))) := by
  intro pins s σ H xs us Q I hv h
  obtain ⟨j, rfl, q⟩ := h
  obtain ⟨u, rfl, t, rfl⟩ := vals1 hv
  refine call_range_1 ?_
  have hp := I.fresh
  refine ⟨.ref s.heap.objs.size, _, I.laid (fun b u e => Heap.get?_push_of_some _ e) (Nat.le_refl _) ?_, rfl, q _ hp⟩
  exact ⟨_, _, _, Heap.get?_push_size _ rfl⟩
def rdRng1 : RCD := fun ws O S => ∃ j, ws = [.int j] ∧ S (.rng 0 j) O
theorem src_rng1 {K : PySem.W.Frag} : SRC K (fun vs H Q => ∃ j, vs = [V.int j] ∧ ∀ p, H p = none → Q (.ref p) (L2.upd H p (.rng 0 j))) rdRng1 := by
  intro F H θ O vs ws S j r q Q k
  obtain ⟨i, rfl, q⟩ := q
  obtain ⟨v, rfl, rv⟩ := r.one_inv
  refine ⟨i, by rw [rv.int_inv], fun p hp => ?_⟩
  exact k _ _ _ _ _ _ (Gr.upd (j.freeF hp)) (j.newF hp) (.rng upd_same) q
def diRv (we : DE) : DS → Sto → (Wk → Sto → Prop) → Prop := fun δ O S => we δ O fun w O1 => ∃ lo hi : Int, w = .rng lo hi ∧ (-(2 ^ 62) ≤ lo ∧ lo < 2 ^ 62 ∧ -(2 ^ 62) ≤ hi ∧ hi < 2 ^ 62) ∧ S (wkR lo (hi - lo).toNat) O1
def wkC (lo c : Int) (n : Nat) : Wk := ⟨fun i _ => if i < n then some (.int (lo + i * c)) else none, fun _ => True⟩
def diR3 (wa : DA) : DS → Sto → (Wk → Sto → Prop) → Prop := fun δ O S => wa δ O fun ws O1 => ∃ (i j c : Int) (n : Nat), ws = [.int i, .int j, .int c] ∧ RgC i j c n ∧ S (wkC i c n) O1
theorem RWs.three_inv {K : PySem.W.Frag} {F : Hp} {θ : List Addr} {vs : List V} {w z y : W} (r : RWs K F θ vs [w, z, y]) : ∃ v u t, vs = [v, u, t] ∧ RW K F θ v w ∧ RW K F θ u z ∧ RW K F θ t y := by
  cases r with
  | cons a b =>
    obtain ⟨u, t, e, c, d⟩ := b.two_inv
    subst e
    exact ⟨_, _, _, rfl, a, c, d⟩
theorem turnC {K : PySem.W.Frag} {lo c : Int} {n : Nat} {i : Nat} {F2 H2 : Hp} {θ2 : List Addr} {O2 : Sto} (j2 : Jn K F2 H2 θ2 O2) :
    ((wkC lo c n).at_ i O2 = none ∧ (Itc lo c n).stop i H2) ∨ ∃ z, (wkC lo c n).at_ i O2 = some z ∧ (Itc lo c n).go i H2 ∧ ∀ x H3, (Itc lo c n).yld i H2 x H3 → ∃ F3 θ3, Gr F2 θ2 F3 θ3 ∧ Jn K F3 H3 θ3 O2 ∧ RW K F3 θ3 x z := by
  by_cases h : i < n
  · refine .inr ⟨.int (lo + i * c), if_pos h, h, fun x H3 hy => ?_⟩
    obtain ⟨rfl, rfl⟩ := hy
    exact ⟨F2, θ2, Gr.refl, j2, .int _⟩
  · exact .inl ⟨if_neg h, by show n ≤ i; omega⟩
section
variable {X : Cx} {tg a b c d e : Expr} {es : List Expr} {wa : DA} {we wx wb wc wd : DE} {p pos : Pos}
theorem ei_rngV (h : ED X e we) : EDI X tg e (diRv we) := by
  obtain ⟨t0, p0, s0⟩ := h.ex
  refine ⟨_, pi_rngV p0, fun F H θ O σ δ S j s q R k => ?_⟩
  refine s0 F H θ O σ δ _ j s q _ fun v w F1 H1 θ1 O1 g1 j1 r1 q1 => ?_
  obtain ⟨lo, hi, rfl, hb, q1⟩ := q1
  obtain ⟨a, rfl, ha⟩ := r1.rng_inv
  exact ⟨a, lo, hi, rfl, j1.sub _ _ ha, hb, k _ _ F1 H1 θ1 O1 g1 j1 q1 fun i F2 H2 θ2 O2 _ j2 _ => turnR j2⟩
theorem ei_range3 (hg : Gl X "range") (hm : X.mg "range" = none) (ha : EDA X [a, b, c] wa) (hs : starEach [a, b, c] X.env = (false, eval a X.env) :: starEach [b, c] X.env := by rfl) (hpl : (backTo pos (starEach [b, c] X.env)).any (·.1) = false := by rfl) : EDI X tg (.Call (.Name "range" p) [a, b, c] [] pos) (diR3 wa) := by
  obtain ⟨t0, p0, s0⟩ := ha.ex
  refine ⟨_, pi_range3 hg hm p0 hs hpl, fun F H θ O σ δ S j s q R k => ?_⟩
  refine s0 F H θ O σ δ _ j s q _ fun vs ws F1 H1 θ1 O1 g1 j1 r1 q1 => ?_
  obtain ⟨n, m, l, num, rfl, h1, q1⟩ := q1
  obtain ⟨v, u, t, rfl, r, r', r''⟩ := r1.three_inv
  rw [r.int_inv, r'.int_inv, r''.int_inv]
  exact ⟨n, m, l, num, rfl, h1, k _ _ F1 H1 θ1 O1 g1 j1 q1 fun i F2 H2 θ2 O2 _ j2 _ => turnC j2⟩
/-! ### a chain of three -/
def dChain3 (r1 r2 r3 : R2D) (wa wb wc wd : DE) : DE := fun δ O S => wa δ O fun x O1 => wb δ O1 fun y O2 => r1 x y O2 fun z O3 => ∃ k, z = .bl k ∧ if k = true then wc δ O3 fun v O4 => r2 y v O4 fun z2 O5 => ∃ k2, z2 = .bl k2 ∧ if k2 = true then wd δ O5 fun u O6 => r3 v u O6 S else S (.bl false) O5 else S (.bl false) O3
theorem chain3_sound {K : PySem.W.Frag} {r1 r2 r3 : R2} {d1 d2 d3 : R2D} {ta tb tc td : TE} (h1 : SR2 K r1 d1) (h2 : SR2 K r2 d2) (h3 : SR2 K r3 d3) (sa : SE K ta wx) (sb : SE K tb wb) (sc : SE K tc wc) (sd : SE K td wd) : SE K (tChain3 r1 r2 r3 ta tb tc td) (dChain3 d1 d2 d3 wx wb wc wd) := fun F H θ O σ δ S j s q Q k => by
  refine sa F H θ O σ δ _ j s q _ fun v x F1 H1 θ1 O1 g1 j1 r1' q1 => ?_
  refine sb F1 H1 θ1 O1 σ δ _ j1 (s.mono g1) q1 _ fun u y F2 H2 θ2 O2 g2 j2 r2' q2 => ?_
  refine h1 F2 H2 θ2 O2 x y v u _ j2 (r1'.mono g2) r2' q2 _ fun z w F3 H3 θ3 O3 g3 j3 r3' q3 => ?_
  obtain ⟨t, rfl, q3⟩ := q3
  have g := (g1.trans g2).trans g3
  refine ⟨t, r3'.bl_inv, ?_⟩
  cases t with
  | false => exact k _ _ F3 H3 θ3 O3 g j3 (.bl false) q3
  | true =>
    refine sc F3 H3 θ3 O3 σ δ _ j3 (s.mono g) q3 _ fun v2 y2 F4 H4 θ4 O4 g4 j4 r4 q4 => ?_
    refine h2 F4 H4 θ4 O4 y y2 u v2 _ j4 ((r2'.mono g3).mono g4) r4 q4 _ fun z w F5 H5 θ5 O5 g5 j5 r5 q5 => ?_
    obtain ⟨t, rfl, q5⟩ := q5
    have gg := (g.trans g4).trans g5
    refine ⟨t, r5.bl_inv, ?_⟩
    cases t with
    | false => exact k _ _ F5 H5 θ5 O5 gg j5 (.bl false) q5
    | true =>
      refine sd F5 H5 θ5 O5 σ δ _ j5 (s.mono gg) q5 _ fun v3 y3 F6 H6 θ6 O6 g6 j6 r6 q6 => ?_
      exact h3 F6 H6 θ6 O6 y2 y3 v2 v3 S j6 ((r4.mono g5).mono g6) r6 q6 Q fun z w F7 H7 θ7 O7 g7 => k z w F7 H7 θ7 O7 ((gg.trans g6).trans g7)
theorem ed_chain3 {o1 o2 o3 : CmpOp} {r1 r2 r3 : R2} {d1 d2 d3 : R2D} (ho1 : OpR X (compareOp o1) r1) (ho2 : OpR X (compareOp o2) r2) (ho3 : OpR X (compareOp o3) r3) (h1 : SR2 X.K r1 d1) (h2 : SR2 X.K r2 d2) (h3 : SR2 X.K r3 d3) (ha : ED X a wx) (hb : ED X b wb) (hc : ED X c wc) (hd : ED X d wd)
    (hm : lastMarks [o1, o2, o3] [b, c, d] = false := by with_unfolding_all rfl) : ED X (.Compare a [o1, o2, o3] [b, c, d] pos) (dChain3 d1 d2 d3 wx wb wc wd) := by
  obtain ⟨ta, pa, sa⟩ := ha.ex
  obtain ⟨tb, pb, sb⟩ := hb.ex
  obtain ⟨tc, pc, sc⟩ := hc.ex
  obtain ⟨td, pd, sd⟩ := hd.ex
  exact ⟨_, pe_chain3 ho1 ho2 ho3 pa pb pc pd hm, chain3_sound h1 h2 h3 sa sb sc sd⟩
end
/-! ### is not None -/
def dNotN (we : DE) : DE := fun δ O S => we δ O fun x O1 => S (.bl (!isN x)) O1
section
variable {X : Cx} {a : Expr} {wa : DE} {pos : Pos}
theorem SE.notN {K : PySem.W.Frag} {ta : TE} (s : SE K ta wa) : SE K (tNotN ta) (dNotN wa) := fun F H θ O σ δ S j s' q Q k => by
  refine s F H θ O σ δ _ j s' q _ fun v x F1 H1 θ1 O1 g1 j1 r1 q1 => ?_
  rw [isN_rel r1]
  exact k _ _ F1 H1 θ1 O1 g1 j1 (.bl _) q1
theorem ed_notN {j pos'} (h : ED X a wa) : ED X (.Compare a [.IsNot] [.Constant .none j pos'] pos) (dNotN wa) := by
  obtain ⟨t, p, s⟩ := h.ex
  exact ⟨_, pe_cmp (pc_notN p), s.notN⟩
theorem et_notN {j pos'} (h : ED X a wa) : EDT X (.Compare a [.IsNot] [.Constant .none j pos'] pos) (dTest (dNotN wa)) := by
  obtain ⟨t, p, s⟩ := h.ex
  exact ⟨_, pt_cmp (pc_notN p), .test s.notN⟩
end
/-! ### - of an int -/
def dNeg (we : DE) : DE := fun δ O S => we δ O fun x O1 => ∃ i : Int, x = .int i ∧ S (.int (-i)) O1
section
variable {X : Cx} {a : Expr} {wa : DE} {pos : Pos}
theorem ed_neg (h : ED X a wa) : ED X (.UnaryOp .USub a pos) (dNeg wa) := by
  obtain ⟨t, p, s⟩ := h.ex
  refine ⟨_, pe_un un_neg p, fun F H θ O σ δ S j s' q Q k => ?_⟩
  refine s F H θ O σ δ _ j s' q _ fun v x F1 H1 θ1 O1 g1 j1 r1 q1 => ?_
  obtain ⟨i, rfl, q1⟩ := q1
  exact ⟨i, r1.int_inv, k _ _ F1 H1 θ1 O1 g1 j1 (.int _) q1⟩
end
/-! ### of tuples of ints -/
theorem tints {K : PySem.W.Frag} {F : Hp} {θ : List Addr} {v : V} {ns : List Int} (r : RW K F θ v (.tup (ns.map W.int))) : ∃ a, v = .ref a ∧ SqT K F a (ns.map V.int) := by
  obtain ⟨a, vs, rfl, hq, rr⟩ := r.tup_inv
  exact ⟨a, rfl, by rw [← ints_rel rr]; exact hq⟩
def rdSortT : RCD := fun ws O S => ∃ ns : List Int, ws = [.tup (ns.map W.int)] ∧ ns.length < 64 ∧ ∀ ns' : List Int, ns'.Perm ns → List.Pairwise (fun x y => x ≤ y) ns' → S (.cell O.length) (O ++ [.lst (ns'.map W.int)])
theorem src_sortT {K : PySem.W.Frag} : SRC K (rSortT K) rdSortT := by
  intro F H θ O vs ws S j r q Q k
  obtain ⟨ns, rfl, hl, q⟩ := q
  obtain ⟨v, rfl, rv⟩ := r.one_inv
  obtain ⟨a, rfl, ha⟩ := tints rv
  refine ⟨a, ns, rfl, sqT_sub j ha, hl, fun ns' p h1 h2 hp => ?_⟩
  exact k _ _ _ _ _ _ Gr.push (j.newL hp RWs.ints) (.cell (by rw [← j.len]; simp)) (q ns' h1 h2)
def rdMaxT : RCD := fun ws O S => ∃ ns : List Int, ws = [.tup (ns.map W.int)] ∧ 0 < ns.length ∧ ∀ m, m ∈ ns → (∀ y, y ∈ ns → y ≤ m) → S (.int m) O
def rdMinT : RCD := fun ws O S => ∃ ns : List Int, ws = [.tup (ns.map W.int)] ∧ 0 < ns.length ∧ ∀ m, m ∈ ns → (∀ y, y ∈ ns → m ≤ y) → S (.int m) O
theorem src_maxT {K : PySem.W.Frag} : SRC K (rMaxT K) rdMaxT := by
  intro F H θ O vs ws S j r q Q k
  obtain ⟨ns, rfl, hl, q⟩ := q
  obtain ⟨v, rfl, rv⟩ := r.one_inv
  obtain ⟨a, rfl, ha⟩ := tints rv
  exact ⟨a, ns, rfl, sqT_sub j ha, hl, fun m h1 h2 => k _ _ F H θ O Gr.refl j (.int m) (q m h1 h2)⟩
theorem src_minT {K : PySem.W.Frag} : SRC K (rMinT K) rdMinT := by
  intro F H θ O vs ws S j r q Q k
  obtain ⟨ns, rfl, hl, q⟩ := q
  obtain ⟨v, rfl, rv⟩ := r.one_inv
  obtain ⟨a, rfl, ha⟩ := tints rv
  exact ⟨a, ns, rfl, sqT_sub j ha, hl, fun m h1 h2 => k _ _ F H θ O Gr.refl j (.int m) (q m h1 h2)⟩
def tupW (ns : List Int) : W := .tup (ns.map W.int)
def rdMinTs : RCD := fun ws O S => ∃ (k : Nat) (L : List (List Int)), ws = [.cell k] ∧ LstC O k (L.map tupW) ∧ 0 < L.length ∧ ∀ ns, ns ∈ L → (∀ ms ∈ L, HT.lexLt ms ns = false) → S (tupW ns) O
theorem src_minTs {K : PySem.W.Frag} : SRC K (rMinTs K) rdMinTs := by
  intro F H θ O vs ws S j r q Q k
  obtain ⟨c, L, rfl, hc, hl, q⟩ := q
  obtain ⟨v, rfl, rv⟩ := r.one_inv
  obtain ⟨a, rfl, ha⟩ := rv.cell_inv
  obtain ⟨xs, hx, rr⟩ := j.lstC ha hc
  have hat : ∀ (i : Nat) (x : V) (ns : List Int), xs[i]? = some x → L[i]? = some ns → RW K F θ x (tupW ns) := fun i x ns e1 e2 => by
    obtain ⟨w, hw, rw'⟩ := rr.getV e1
    rw [List.getElem?_map, e2] at hw
    cases hw
    exact rw'
  refine ⟨a, xs, L, rfl, hx, by rw [rr.length, List.length_map], fun i x ns e1 e2 => ?_, hl, fun i x ns e1 e2 h => ?_⟩
  · obtain ⟨t, rfl, ht⟩ := tints (hat i x ns e1 e2)
    exact ⟨t, rfl, sqT_sub j ht⟩
  · exact k _ _ F H θ O Gr.refl j (hat i x ns e1 e2) (q ns (List.mem_of_getElem? e2) h)
/-! ### in, of data; repr -/
def rdInL : R2D := fun x y O S => ∃ d ds, DW O x d ∧ DW O y (.list ds) ∧ SeqAt.shaped d = true ∧ SeqAt.shaped (.list ds) = true ∧ S (.bl (ds.any fun z => PyData.eqv z d)) O
theorem sr_inL {K : PySem.W.Frag} : SR2 K (L2.rInD K) rdInL := by
  intro F H θ O x y v u S j rx ry q Q k
  obtain ⟨d, ds, hd, he, h1, h2, q⟩ := q
  exact ⟨d, ds, hd.dp j rx, he.dp j ry, h1, h2, k _ _ F H θ O Gr.refl j (.bl _) q⟩
def rdRepr : RCD := fun ws O S => ∃ (x : W) (d : PyData), ws = [x] ∧ DW O x d ∧ (x = .non ∨ (∃ us, x = .tup us) ∨ ∃ k, x = .cell k) ∧ d.showable = true ∧ d.hasDict = false ∧ d.depth ≤ 64 ∧ d.shown.length ≤ sizeLine ∧ S (.str d.shown) O
theorem src_repr {K : PySem.W.Frag} : SRC K (rRepr K) rdRepr := by
  intro F H θ O vs ws S j r q Q k
  obtain ⟨x, d, rfl, hd, hx, h1, h2, h3, h4, q⟩ := q
  obtain ⟨v, rfl, rv⟩ := r.one_inv
  refine ⟨v, d, rfl, hd.dp j rv, ?_, h1, h2, h3, h4, k _ _ F H θ O Gr.refl j (.str _) q⟩
  rcases hx with rfl | ⟨us, rfl⟩ | ⟨c, rfl⟩
  · exact .inl rv.non_inv
  · obtain ⟨a, _, rfl, _⟩ := rv.tup_inv
    exact .inr ⟨a, rfl⟩
  · obtain ⟨a, rfl, _⟩ := rv.cell_inv
    exact .inr ⟨a, rfl⟩
section
variable {X : Cx} {a b : Expr} {wa wb : DE} {pos : Pos}
theorem et_inL (hu : X.A.units + 65 < cLine) (ha : ED X a wa) (hb : ED X b wb) (hm : behindInMarks .In b = false := by with_unfolding_all rfl) : EDT X (.Compare a [.In] [b] pos) (dTest (dOp rdInL wa wb)) := et_cmp (L2.op_inD hu) sr_inL ha hb hm
theorem hu65 {k : Nat} (hr : RoomG k X.A) : X.A.units + 65 < cLine := by
  have h := hr.r.un
  omega
theorem hu3 {k : Nat} (hr : RoomG k X.A) : X.A.units + 3 < cLine := by
  have h := hr.r.un
  omega
end
/-! ### calls by keywords alone, in the sequence of the parameters -/
section
variable {X : Cx} {k : Nat} {f : Addr} {fd : FuncData} {ps : List Str} {sp : SpD} {x : Str} {p pos : Pos} {kws : List Keyword} {wk : DA} {tk : TA}
def kg0 {α : Type} : List α → List α → List α
  | [], ws => ws
  | _ :: _, _ => []
abbrev KId (K : PySem.W.Frag) (fd : FuncData) (ps : List Str) : Prop := KBinds K fd ps ps kg0 kg0
theorem kg0_rel {vs : List V} {us : List Value} {zs : List V} {ws : List Value} (r : Vals vs us) (rz : Vals zs ws) : Vals (kg0 vs zs) (kg0 us ws) := by
  cases r with
  | nil => exact rz
  | cons _ _ => exact .nil
theorem pe_callGK (F : FnG X.prog X.w X.K X.mg X.base k f fd ps sp) (hr : RoomG k X.A) (hg : Gl X x) (hm : X.mg x = some (.ref f)) (hk : PySem.W.keepIn X.K (.ref f) = true) (hb : KId X.K fd ps) (hkw : PK X kws tk)
    (hall : (backToKw pos (keywordEach kws X.env)).all (·.1.isSome) = true := by rfl) (hks : (backToKw pos (keywordEach kws X.env)).filterMap (·.1) = ps := by rfl) (hdb : (x == ("__debug__" : Str)) = false := by decide)
    (hpl : ((backTo pos (starEach [] X.env)).any (·.1) || (backToKw pos (keywordEach kws X.env)).any (·.1.isNone)) = false := by rfl) :
    PE X (.Call (.Name x p) [] kws pos) (fun σ H Q => tk σ H fun zs H1 => lift X.K sp zs H1 Q) := by
  refine ⟨fun pins s σ H Q I h => ?_⟩
  refine wpAny_Call_Name_kw (ld_glob I hg hm ?_ hdb)
  refine PySem.W.callWith_KW0 (h₀ := X.base) I.ok.mod.kin hk hall (thn (hkw.run pos pins s σ H _ I h) fun ws s1 ⟨vs, H1, I1, r1, q1⟩ => ⟨I1.kIn, ?_⟩) hpl
  rw [hks]
  have hl := lift_len F q1
  exact runG F hr (show BindsTo s1 fd ⟨[], ps.zip ws⟩ (ps.zip ws) from hb.to s1 [] ws I1.kIn (by show ws.length = _; rw [← r1.length]; exact hl)) I1 r1 q1
def dCallK0 (sp : SpD) (wk : DA) : DE := fun δ O S => wk δ O fun ws O1 => sp ws O1 S
theorem ed_callK0 (F : FnG X.prog X.w X.K X.mg X.base k f fd ps sp) (hr : RoomG k X.A) (hg : Gl X x) (hm : X.mg x = some (.ref f)) (hk : PySem.W.keepIn X.K (.ref f) = true) (hb : KId X.K fd ps) (hkw : EDK X kws wk)
    (hall : (backToKw pos (keywordEach kws X.env)).all (·.1.isSome) = true := by rfl) (hks : (backToKw pos (keywordEach kws X.env)).filterMap (·.1) = ps := by rfl) (hdb : (x == ("__debug__" : Str)) = false := by decide)
    (hpl : ((backTo pos (starEach [] X.env)).any (·.1) || (backToKw pos (keywordEach kws X.env)).any (·.1.isNone)) = false := by rfl) :
    ED X (.Call (.Name x p) [] kws pos) (dCallK0 sp wk) := by
  obtain ⟨t0, p0, s0⟩ := hkw.ex
  refine ⟨_, pe_callGK F hr hg hm hk hb p0 hall hks hdb hpl, fun F0 H θ O σ δ S j s q Q kk => ?_⟩
  exact s0 F0 H θ O σ δ _ j s q _ fun vs ws F1 H1 θ1 O1 g1 j1 r1 q1 => ⟨F1, θ1, O1, ws, S, j1, r1, q1, fun v w F2 H2 θ2 O2 g2 j2 r2 q2 => kk v w F2 H2 θ2 O2 (g1.trans g2) j2 r2 q2⟩
end
end Dm

set_option Elab.async false
set_option linter.all false
set_option maxRecDepth 100000
set_option maxHeartbeats 4000000
/-! The data machine: defs that let exceptions out, their calls. -/
namespace Dm
open PySem PySem.Spec PyProof.Rows L2
abbrev XD := Value → Option Nat → Sto → Prop
/-- a promise over the data: the arguments, the store, what is wanted of the answer, of what is raised -/
abbrev SpX := List W → Sto → WK → XD → Prop
def liftX (K : PySem.W.Frag) (sp : SpX) (vs : List V) (H : Hp) (Q : VK) (E : XK) : Prop :=
  ∃ F θ O ws S T, Jn K F H θ O ∧ RWs K F θ vs ws ∧ sp ws O S T ∧ (∀ v w F' H' θ' O', Gr F θ F' θ' → Jn K F' H' θ' O' → RW K F' θ' v w → S w O' → Q v H') ∧
    ∀ cls dk d F' H' θ' O', Gr F θ F' θ' → Jn K F' H' θ' O' → dkR θ' dk d → T cls dk O' → E cls d H'
structure FnX (P : Program) (w : World) (K : PySem.W.Frag) (mg : Str → Option Value) (base : Heap) (k : Nat) (f : Addr) (fd : FuncData) (ps : List Str) (sp : SpX) : Prop where
  len : ∀ ws O S T, sp ws O S T → ws.length = ps.length
  run : ∀ (A : Around) (outer : List Env) (s : Shared) (H : Hp) (args : Args) (us : List Value) (vs : List V) (Q : VK) (E : XK), RoomG k A → Env0 P w K mg base A outer s H → BindsTo s fd args (ps.zip us) → Vals vs us → liftX K sp vs H Q E →
    codeAny (model P w) A (.call (.ref f) args) (CR (L2N.CX P w) outer P w H s Q E) s
theorem FnX.mono {P : Program} {w : World} {K : PySem.W.Frag} {mg : Str → Option Value} {base : Heap} {j k : Nat} {f : Addr} {fd : FuncData} {ps : List Str} {sp : SpX} (F : FnX P w K mg base j f fd ps sp) (h : j ≤ k) : FnX P w K mg base k f fd ps sp :=
  ⟨F.len, fun A outer s H args us vs Q E hr => F.run A outer s H args us vs Q E (hr.mono h)⟩
/-- where nothing is raised -/
theorem FnX.g {P : Program} {w : World} {K : PySem.W.Frag} {mg : Str → Option Value} {base : Heap} {k : Nat} {f : Addr} {fd : FuncData} {ps : List Str} {sp : SpX} {sp' : SpD} (F : FnX P w K mg base k f fd ps sp) (h : ∀ ws O S, sp' ws O S → sp ws O S fun _ _ _ => False) : FnG P w K mg base k f fd ps sp' := by
  refine ⟨fun ws O S q => F.len ws O S _ (h ws O S q), fun A outer s H args us vs Q hr e0 hb hv hl => ?_⟩
  obtain ⟨F0, θ, O, ws, S, j, r, q, fin⟩ := hl
  refine codeAny_mono (F.run A outer s H args us vs Q (fun _ _ _ => False) hr e0 hb hv ⟨F0, θ, O, ws, S, _, j, r, h ws O S q, fin, fun _ _ _ _ _ _ _ _ _ _ z => z.elim⟩) fun r s' hq => ?_
  cases r with
  | error e =>
    obtain ⟨_, _, _, _, _, _, _, _, _, _, _, _, z⟩ := (show L2N.CX P w outer H s (fun _ _ _ => False) e s' from hq)
    exact z.elim
  | ok fl =>
    cases fl with
    | ret u => exact hq
    | next => exact False.elim hq
    | brk => exact False.elim hq
    | cont => exact False.elim hq
section
variable {P : Program} {w : World} {K : PySem.W.Frag} {mg : Str → Option Value} {base : Heap}
/-- the context of such a def's body -/
abbrev cxX (P : Program) (w : World) (K : PySem.W.Frag) (mg : Str → Option Value) (base : Heap) (N : List Str) (qual : Str) (scope : Scope) (f : Addr) (cd : Value) (A : Around) (outer : List Env) (s : Shared) (H : Hp) (E : XK) : Cx :=
  cxOf (L2N.CX P w) P w K mg base N qual scope f cd A outer s H E
abbrev wxE (E : XK) : WX := fun cls d _ H => E cls d H
theorem takesX {N : List Str} {qual : Str} {scope : Scope} {f : Addr} {cd : Value} {A : Around} {outer : List Env} {s : Shared} {H : Hp} {E : XK} : L2N.Takes (cxX P w K mg base N qual scope f cd A outer s H E) (wxE E) :=
  L2N.takes_of (X := cxX P w K mg base N qual scope f cd A outer s H E) (E := E) rfl rfl rfl rfl
/-- THE RULE: such a def by its body -/
theorem FunX {x qual : Str} {params : Arguments} {body : List Stmt} {scope : Scope} {dvs : List V} {kws : List (Str × V)} {f : Addr} {fd : FuncData} {N ps : List Str} {k : Nat} {sp : SpX} (F : FunD K x qual params body scope dvs kws f fd) (S : FnScope N ps scope)
    (len : ∀ ws O S T, sp ws O S T → ws.length = ps.length)
    (hbody : ∀ (cdv : Value) (A : Around) (outer : List Env) (s : Shared) (H : Hp) (E : XK), RoomG k (A.deeper (envOfC qual scope s.heap.objs.size f cdv)) →
      ∃ wb, EDXB (cxX P w K mg base N qual scope f cdv A outer s H E) (wxE E) body wb ∧ ∀ ws O S T, sp ws O S T → wb { nx := fun _ O' => S .non O', rt := S, ex := fun cls dk _ O' => T cls dk O' } (startD N ws) O) : FnX P w K mg base (k + 1) f fd ps sp := by
  obtain ⟨oc, od, dV, kV, doc, pm, an, cdv, ct, osl, rfl, lk, hcd, _, _⟩ := F.ex
  refine ⟨len, fun A outer s H args us vs Q E hr e0 hb r hsp => ?_⟩
  obtain ⟨F0, θ, O, ws, S', T', jn, rr, q, fin, finx⟩ := hsp
  have hl : vs.length = ps.length := rr.length.trans (len _ _ _ _ q)
  have KX : K.In s.heap := e0.mod.kin.keeps fun b o e => (e0.bs b o e).1
  have lim : s.heap.NoLimit := e0.mod.nolimit.keeps fun b o e => (e0.bs b o e).1
  have hkind : ∀ y ∈ ps.zip us, scope.names.lookup y.1 = some .local ∨ (scope.names.lookup y.1 = some .cell ∧ ((cellsFrom (s.heap.objs.size + 1) scope.names []).lookup y.1).isSome = true) := by
    rintro ⟨n, v⟩ hy
    rcases S.par n (List.of_mem_zip hy).1 with q | q
    · exact .inl q
    · exact .inr ⟨q, PySem.W.cellsFrom_some _ _ _ (.inl q)⟩
  refine codeAny_call_function hr.r.depth (KX _ _ lk) rfl S.co S.gen rfl (PySem.W.codeRec_of KX hcd) (hb _ _ _ _ ?_)
  refine wpAny_newFunctionEnv_cells S.kind hkind fun env he s1 x => ?_
  subst he
  refine ⟨lim.keeps x.toInCall.keep, codeAny_func ?_⟩
  obtain ⟨wb, hB, hW⟩ := hbody cdv A outer s H E (hr.deeper _)
  obtain ⟨t, ht, hs⟩ := hB.ex
  have I := inv_start (CX := L2N.CX P w) (E := E) S hr.r.hd e0 hl r x
  have hq : t { nx := fun _ H' => Q .non H', rt := Q } (L2.start N vs) H := hs F0 H θ O _ _ _ _ jn (rs_start rr) (hW ws O S' T' q)
    ⟨⟨fun F' H' θ' O' σ δ g j' s' q' => fin _ _ F' H' θ' O' g j' .non q', fun F' H' θ' O' v w' g j' r' q' => fin v w' F' H' θ' O' g j' r' q', fun _ _ _ _ _ _ _ _ _ z => z, fun _ _ _ _ _ _ _ _ _ z => z⟩,
      fun F' H' θ' O' σ δ cls dk d g j' _ hd q' => finx cls dk d F' H' θ' O' g j' hd q'⟩
  refine wpAny_mono (ht.run [] s1 (L2.start N vs) H _ I hq) (fun fl s' hs' => ?_) fun e s' z => z
  cases fl with
  | ret u =>
    obtain ⟨v, σ', H', J, rv, q⟩ := hs'
    exact ⟨v, H', J.os, J.bare, J.base, J.hok, rv, q⟩
  | next =>
    obtain ⟨σ', H', J, q⟩ := hs'
    exact ⟨V.non, H', J.os, J.bare, J.base, J.hok, rfl, q⟩
  | brk =>
    obtain ⟨_, _, _, q⟩ := hs'
    exact q.elim
  | cont =>
    obtain ⟨_, _, _, q⟩ := hs'
    exact q.elim
end
/-! ### expressions that may raise -/
abbrev DEX := DS → Sto → WK → XD → Prop
def SEX (K : PySem.W.Frag) (W : WX) (te : TE) (we : DEX) : Prop := ∀ F H θ O σ δ S T, Jn K F H θ O → RS K F θ σ δ → we δ O S T → ∀ Q : VK,
  (∀ v w F' H' θ' O', Gr F θ F' θ' → Jn K F' H' θ' O' → RW K F' θ' v w → S w O' → Q v H') →
  (∀ cls dk d F' H' θ' O', Gr F θ F' θ' → Jn K F' H' θ' O' → dkR θ' dk d → T cls dk O' → W cls d σ H') → te σ H Q
structure EDE (X : Cx) (W : WX) (e : Expr) (we : DEX) : Prop where
  ex : ∃ te, PE X e te ∧ SEX X.K W te we
def dCallX (sp : SpX) (wa : DA) : DEX := fun δ O S T => wa δ O fun ws O1 => sp ws O1 S T
def dxDrop (we : DEX) : DTX := fun D δ O => we δ O (fun _ O1 => D.nx δ O1) fun cls dk O1 => D.ex cls dk δ O1
def dxSet (i : Nat) (we : DEX) : DTX := fun D δ O => we δ O (fun w O1 => D.nx (δ.set i (some w)) O1) fun cls dk O1 => D.ex cls dk δ O1
def dxRet (we : DEX) : DTX := fun D δ O => we δ O D.rt fun cls dk O1 => D.ex cls dk δ O1
section
variable {X : Cx} {W : WX} {k : Nat} {f : Addr} {fd : FuncData} {ps : List Str} {sp : SpX} {x : Str} {p pos : Pos} {e : Expr} {es : List Expr} {kws : List Keyword} {wa : DA} {we : DEX} {t : TA}
theorem ee_of {we : DE} (h : ED X e we) : EDE X W e (fun δ O S _ => we δ O S) := by
  obtain ⟨t, p, s⟩ := h.ex
  exact ⟨t, p, fun F H θ O σ δ S T j r q Q k _ => s F H θ O σ δ S j r q Q k⟩
theorem runX {pins : List (Addr × Obj)} {σ : L2.St} {H : Hp} {s : Shared} {Q : VK} {us bs : List Value} {kw : List (Str × Value)} {vs : List V} (F : FnX X.prog X.w X.K X.mg X.base k f fd ps sp) (hr : RoomG k X.A) (tk : L2N.Takes X W) (hb : BindsTo s fd ⟨us, kw⟩ (ps.zip bs))
    (I : Inv X pins σ H s) (r : Vals vs bs) (h : liftX X.K sp vs H Q (WE W σ)) : wpAny (model X.prog X.w) X.A (call (.ref f) us kw) (EP X pins σ Q) X.xe s := by
  refine wpAny_call (codeAny_mono (F.run X.A X.stack s H ⟨us, kw⟩ bs vs Q (WE W σ) hr I.env0 hb r h) fun r s' hq => ?_)
  cases r with
  | error e => exact L2N.passAt tk σ pins H s e s' I hq
  | ok fl =>
    cases fl with
    | ret u => exact I.after hq
    | next => exact False.elim hq
    | brk => exact False.elim hq
    | cont => exact False.elim hq
theorem liftX_len {K : PySem.W.Frag} {vs : List V} {H : Hp} {Q : VK} {E : XK} {P : Program} {w : World} {mg : Str → Option Value} {base : Heap} (F : FnX P w K mg base k f fd ps sp) (h : liftX K sp vs H Q E) : vs.length = ps.length := by
  obtain ⟨F0, θ, O, ws, S, T, j, r, q, _⟩ := h
  exact r.length.trans (F.len _ _ _ _ q)
theorem pe_callX (F : FnX X.prog X.w X.K X.mg X.base k f fd ps sp) (hr : RoomG k X.A) (tk : L2N.Takes X W) (hg : Gl X x) (hm : X.mg x = some (.ref f)) (hk : PySem.W.keepIn X.K (.ref f) = true) (hb : Binds X.K fd ps []) (ha : PA X (e :: es) t)
    (hdb : (x == ("__debug__" : Str)) = false := by decide) (he : starEach (e :: es) X.env = (false, eval e X.env) :: starEach es X.env := by rfl) (hpl : (backTo pos (starEach es X.env)).any (·.1) = false := by rfl) :
    PE X (.Call (.Name x p) (e :: es) [] pos) (fun σ H Q => t σ H fun vs H1 => liftX X.K sp vs H1 Q (WE W σ)) := by
  refine ⟨fun pins s σ H Q I h => ?_⟩
  refine wpAny_Call_Name_kw (ld_glob I hg hm ?_ hdb)
  refine PySem.W.callWith_K (h₀ := X.base) I.ok.mod.kin hk (thn (ha.run pos pins s σ H _ I h) fun us s1 ⟨vs, H1, I1, r, q⟩ => ⟨I1.kIn, ?_⟩) he hpl
  have hl := hb s1 us I1.kIn (by rw [List.append_nil, ← r.length]; exact liftX_len F q)
  rw [List.append_nil] at hl
  exact runX F hr tk hl I1 r q
theorem ee_call (F : FnX X.prog X.w X.K X.mg X.base k f fd ps sp) (hr : RoomG k X.A) (tk : L2N.Takes X W) (hg : Gl X x) (hm : X.mg x = some (.ref f)) (hk : PySem.W.keepIn X.K (.ref f) = true) (hb : Binds X.K fd ps []) (ha : EDA X (e :: es) wa)
    (hdb : (x == ("__debug__" : Str)) = false := by decide) (he : starEach (e :: es) X.env = (false, eval e X.env) :: starEach es X.env := by rfl) (hpl : (backTo pos (starEach es X.env)).any (·.1) = false := by rfl) :
    EDE X W (.Call (.Name x p) (e :: es) [] pos) (dCallX sp wa) := by
  obtain ⟨t0, p0, s0⟩ := ha.ex
  refine ⟨_, pe_callX F hr tk hg hm hk hb p0 hdb he hpl, fun F0 H θ O σ δ S T j s q Q kk kx => ?_⟩
  exact s0 F0 H θ O σ δ _ j s q _ fun vs ws F1 H1 θ1 O1 g1 j1 r1 q1 => ⟨F1, θ1, O1, ws, S, T, j1, r1, q1, fun v w F2 H2 θ2 O2 g2 j2 r2 q2 => kk v w F2 H2 θ2 O2 (g1.trans g2) j2 r2 q2, fun cls dk d F2 H2 θ2 O2 g2 j2 r2 q2 => kx cls dk d F2 H2 θ2 O2 (g1.trans g2) j2 r2 q2⟩
theorem ex_expr (h : EDE X W e we) (hs : swapsWith e none pos.line X.env = pure false := by rfl) : EDX X W (.Expr e pos) (dxDrop we) := by
  obtain ⟨t0, p0, s0⟩ := h.ex
  refine ⟨_, ps_expr p0 hs, fun F H θ O σ δ D D' j s q l => ?_⟩
  exact s0 F H θ O σ δ _ _ j s q _ (fun v w F1 H1 θ1 O1 g1 j1 r1 q1 => l.nx F1 H1 θ1 O1 σ δ g1 j1 (s.mono g1) q1) fun cls dk d F1 H1 θ1 O1 g1 j1 r1 q1 => l.ex F1 H1 θ1 O1 σ δ cls dk d g1 j1 (s.mono g1) r1 q1
theorem ex_ret (h : EDE X W e we) : EDX X W (.Return (some e) pos) (dxRet we) := by
  obtain ⟨t0, p0, s0⟩ := h.ex
  refine ⟨_, ps_ret p0, fun F H θ O σ δ D D' j s q l => ?_⟩
  exact s0 F H θ O σ δ _ _ j s q _ (fun v w F1 H1 θ1 O1 g1 j1 r1 q1 => l.rt F1 H1 θ1 O1 v w g1 j1 r1 q1) fun cls dk d F1 H1 θ1 O1 g1 j1 r1 q1 => l.ex F1 H1 θ1 O1 σ δ cls dk d g1 j1 (s.mono g1) r1 q1
theorem ex_set {i : Nat} {x : Str} {pos' : Pos} (hN : X.N.Nodup) (hi : X.N[i]? = some x) (hx : Loc X.env.scope x) (h : EDE X W e we) (hs : swapsWith e (some (.Name x pos')) pos.line X.env = pure false := by rfl)
    (hf : X.fn x = true ∨ X.env.scope.names.lookup x = some .local := by first | exact .inl rfl | exact .inr rfl | assumption) : EDX X W (.Assign [.Name x pos'] e pos) (dxSet i we) := by
  obtain ⟨t0, p0, s0⟩ := h.ex
  refine ⟨_, ps_set hN hi hx p0 hs hf, fun F H θ O σ δ D D' j s q l => ?_⟩
  exact s0 F H θ O σ δ _ _ j s q _ (fun v w F1 H1 θ1 O1 g1 j1 r1 q1 => l.nx F1 H1 θ1 O1 _ _ g1 j1 ((s.mono g1).set i r1) q1) fun cls dk d F1 H1 θ1 O1 g1 j1 r1 q1 => l.ex F1 H1 θ1 O1 σ δ cls dk d g1 j1 (s.mono g1) r1 q1
end
end Dm

set_option Elab.async false
set_option linter.all false
set_option maxRecDepth 100000
set_option maxHeartbeats 4000000
/-! The data machine: isinstance of two classes, sorted of pairs, a dict of one pair. -/
namespace Dm
open PySem PySem.Spec PyProof.Rows L2
/-! ### isinstance(x, (A, B)) -/
def dIsT2 (we : DE) (T1 T2 : String) : DE := fun δ O S => we δ O fun x O1 => ∃ t b1 b2, tyW x O1 = some t ∧ kitB t T1 = some b1 ∧ kitB t T2 = some b2 ∧ S (.bl (b1 || b2)) O1
theorem kit_any2 {K : PySem.W.Frag} {t T1 T2 : String} {b1 b2 : Bool} (h1 : kitB t T1 = some b1) (h2 : kitB t T2 = some b2) : PySem.W.kitAny K (.type t) [.type T1, .type T2] = some (b1 || b2) := by
  unfold PySem.W.kitAny
  rw [kit_ty h1]
  cases b1 with
  | true => rfl
  | false =>
    unfold PySem.W.kitAny
    rw [kit_ty h2]
    cases b2 with
    | true => rfl
    | false => rfl
section
variable {X : Cx} {e : Expr} {we : DE} {p pos tpos p1 p2 : Pos} {x1 x2 : Str} {T1 T2 : String} {kk : Nat}
theorem ed_isT2 (hg : Gl X "isinstance") (hm : X.mg "isinstance" = none) (g1 : Gl X x1) (m1 : X.mg x1 = none) (v1 : bootBuiltins x1 = some (.type T1)) (g2 : Gl X x2) (m2 : X.mg x2 = none) (v2 : bootBuiltins x2 = some (.type T2)) (he : ED X e we)
    (n1 : x1 ≠ "__name__" := by decide) (d1 : (x1 == ("__debug__" : Str)) = false := by decide) (n2 : x2 ≠ "__name__" := by decide) (d2 : (x2 == ("__debug__" : Str)) = false := by decide)
    (hst : starEach [e, .Tuple [.Name x1 p1, .Name x2 p2] kk tpos] X.env = (false, eval e X.env) :: starEach [.Tuple [.Name x1 p1, .Name x2 p2] kk tpos] X.env := by rfl) (hpl : (backTo pos (starEach [.Tuple [.Name x1 p1, .Name x2 p2] kk tpos] X.env)).any (·.1) = false := by rfl)
    (hs2 : starEach [.Tuple [.Name x1 p1, .Name x2 p2] kk tpos] X.env = (false, eval (.Tuple [.Name x1 p1, .Name x2 p2] kk tpos) X.env) :: starEach [] X.env := by rfl) (hs3 : starEach [.Name x1 p1, .Name x2 p2] X.env = (false, eval (.Name x1 p1) X.env) :: starEach [.Name x2 p2] X.env := by rfl)
    (hs4 : starEach [.Name x2 p2] X.env = (false, eval (.Name x2 p2) X.env) :: starEach [] X.env := by rfl) :
    ED X (.Call (.Name "isinstance" p) [e, .Tuple [.Name x1 p1, .Name x2 p2] kk tpos] [] pos) (dIsT2 we T1 T2) := by
  obtain ⟨t0, q0, s0⟩ := he.ex
  refine ⟨_, pe_callB call_isiT hg hm (by decide +kernel) (pa_cons q0 (pa_cons (pe_tup (pa_cons (pe_bltn (v := .ty T1) g1 m1 v1 rfl n1 d1) (pa_cons (pe_bltn (v := .ty T2) g2 m2 v2 rfl n2 d2) pa_nil hs4) hs3)) pa_nil hs2) hst) (by decide) (by decide) hst hpl, fun F H θ O σ δ S j s q Q k => ?_⟩
  refine s0 F H θ O σ δ _ j s q _ fun v x F1 H1 θ1 O1 g1 j1 r1 q1 => ?_
  obtain ⟨t, b1, b2, ht, hb1, hb2, q1⟩ := q1
  refine ⟨by show 2 ≤ _; rw [sizeLine_eq]; omega, fun a ha => ?_⟩
  have g2 : Gr F1 θ1 (L2.upd F1 a (.tup [.ty T1, .ty T2])) θ1 := Gr.upd (j1.freeF ha)
  have j2 := j1.newF (o := .tup [.ty T1, .ty T2]) ha
  exact ⟨v, a, [.ty T1, .ty T2], .type t, [.type T1, .type T2], b1 || b2, rfl, upd_same, .cons (.ty _) (.cons (.ty _) .nil), tyW_ok j2 (r1.mono g2) ht, kit_any2 hb1 hb2, k _ _ _ _ _ _ (g1.trans g2) j2 (.bl _) q1⟩
end
/-! ### dict([(k, v)]) -/
def rdDict1 : RCD := fun ws O S => ∃ k kw vw key, ws = [.cell k] ∧ LstC O k [.tup [kw, vw]] ∧ keyW kw = some key ∧ S (.cell O.length) (O ++ [.dct [(key, vw)]])
theorem src_dict1 {K : PySem.W.Frag} : SRC K (fun xs H Q => ∃ (a : Addr) (ps : List Addr) (kvs : List (Key × V)), xs = [V.ref a] ∧ SqL K H a (ps.map V.ref) ∧ Paired (fun p kv => SqT K H p [kV kv.1, kv.2]) ps kvs ∧ ∀ p, H p = none → Q (.ref p) (L2.upd H p (.dK (mergeK [] kvs)))) rdDict1 := by
  intro F H θ O vs ws S j r q Q k
  obtain ⟨c, kw, vw, key, rfl, hc, hk, q⟩ := q
  obtain ⟨v, rfl, rv⟩ := r.one_inv
  obtain ⟨a, rfl, ha⟩ := rv.cell_inv
  obtain ⟨xs, hx, rr⟩ := j.lstC ha hc
  obtain ⟨x, rfl, rx⟩ := rr.one_inv
  obtain ⟨t, us, rfl, hq, rt⟩ := rx.tup_inv
  obtain ⟨kv, vv, rfl, rk, rvv⟩ := rt.two_inv
  refine ⟨a, [t], [(key, vv)], rfl, hx, .cons (by rw [← key_rel rk hk]; exact sqT_sub j hq) .nil, fun p hp => ?_⟩
  have e : mergeK [] [(key, vv)] = [(key, vv)] := rfl
  rw [e]
  exact k _ _ _ _ _ _ Gr.push (j.newC (c := .dct [(key, vw)]) hp ⟨j.freeF hp, [(key, vv)], upd_same, .cons ⟨rfl, rvv.mono Gr.push⟩ .nil⟩) (.cell (by rw [← j.len]; simp)) q
/-! ### sorted, of pairs of ints -/
def rSortPrs (K : PySem.W.Frag) (vs : List V) (H : Hp) (Q : VK) : Prop := ∃ (a : Addr) (xs : List V) (ps : List (Int × Int)), vs = [V.ref a] ∧ (SqL K H a xs ∨ SqT K H a xs) ∧ Paired (fun x p => ∃ t, x = V.ref t ∧ SqT K H t [.int p.1, .int p.2]) xs ps ∧
  ∀ (ys : List V) (qs : List (Int × Int)) (p : Addr), Paired (fun y q => ∃ i : Nat, xs[i]? = some y ∧ ps[i]? = some q) ys qs → qs.Perm ps → List.Pairwise (fun x y => SrtO.lexB y x = false) qs → H p = none → Q (.ref p) (L2.upd H p (.lst ys))
theorem isPair_uniq {h : Heap} {v : Value} {x y x' y' : Int} (a : Srt.IsPair h v x y) (b : Srt.IsPair h v x' y') : x = x' ∧ y = y' := by
  obtain ⟨p, o, t, u, n, rfl, h1, h2, h3⟩ := a
  obtain ⟨p', o', t', u', n', e, h1', h2', h3'⟩ := b
  cases e
  rw [h1] at h1'
  cases h1'
  rw [h3] at h3'
  cases h3'
  exact ⟨rfl, rfl⟩
theorem paired_at {α β : Type} {R : α → β → Prop} : ∀ {xs : List α} {ys : List β} {i : Nat} {x : α}, Paired R xs ys → xs[i]? = some x → ∃ y, ys[i]? = some y ∧ R x y
  | _, _, _, _, .nil, e => by simp at e
  | _, _, 0, _, .cons r _, e => by simp at e; subst e; exact ⟨_, rfl, r⟩
  | _, _, i + 1, x, .cons _ t, e => by
    obtain ⟨y, h1, h2⟩ := paired_at (i := i) (x := x) t (by simpa using e)
    exact ⟨y, by simpa using h1, h2⟩
theorem paired_len {α β : Type} {R : α → β → Prop} : ∀ {xs : List α} {ys : List β}, Paired R xs ys → xs.length = ys.length
  | _, _, .nil => rfl
  | _, _, .cons _ t => by rw [List.length_cons, List.length_cons, paired_len t]
theorem paired_map {α β γ : Type} {R : β → γ → Prop} {f : α → β} {g : α → γ} : ∀ {l : List α}, (∀ x ∈ l, R (f x) (g x)) → Paired R (l.map f) (l.map g)
  | [], _ => .nil
  | x :: l, h => .cons (h x List.mem_cons_self) (paired_map fun y hy => h y (List.mem_cons_of_mem _ hy))
def backR : Value → V
  | .ref t => .ref t
  | _ => .non
theorem cr_sortPrs {X : Cx} : CallR X (.builtin "sorted") (rSortPrs X.K) := by
  classical
  intro pins s σ H zs us Q I hv h
  obtain ⟨a, xs, ps, rfl, hq, hp, q⟩ := h
  obtain rfl := hv.ref1
  have src : ∃ (its : List Value) (o : Obj) (T : String) (n : Nat), Vals xs its ∧ (T = "list" ∨ T = "tuple") ∧ s.heap.get? a = some o ∧ o.cls = Value.type T ∧ o.data = Data.seq its.toArray n ∧ its.length ≤ sizeLine := by
    rcases hq with hq | hq
    · obtain ⟨its, r, ⟨o, n, ho, hc, _, hd⟩, hz⟩ := I.list hq
      exact ⟨its, o, "list", n, r, .inl rfl, ho, hc, hd, by rw [← r.length]; exact hz⟩
    · obtain ⟨its, r, ⟨o, ho, hc, n, hd⟩, hz⟩ := I.tuple hq
      exact ⟨its, o, "tuple", n, r, .inr rfl, ho, hc, hd, by rw [← r.length]; exact hz⟩
  obtain ⟨its, o, T, n, r, hT, ho, hc, hd, hz⟩ := src
  have hpair : ∀ (i : Nat) (v : Value), its[i]? = some v → ∃ (x : V) (p : Int × Int) (t : Addr), xs[i]? = some x ∧ ps[i]? = some p ∧ x = .ref t ∧ v = .ref t ∧ Srt.IsPair s.heap v p.1 p.2 := fun i v e => by
    obtain ⟨x, hx, rx⟩ := vals_at r e
    obtain ⟨p, hpi, t, rfl, ht⟩ := paired_at hp hx
    obtain rfl : v = Value.ref t := rx
    obtain ⟨jt, rt, ⟨o2, ho2, hc2, n2, hd2⟩, _⟩ := I.tuple ht
    obtain ⟨u1, u2, e2, ⟨t1, rfl⟩, ⟨t2, rfl⟩⟩ := vals2 rt
    subst e2
    exact ⟨_, p, t, hx, hpi, rfl, rfl, t, o2, t1, t2, n2, rfl, ho2, hc2, hd2⟩
  let kf : Value → Int × Int := fun v => if h : ∃ p : Int × Int, Srt.IsPair s.heap v p.1 p.2 then Classical.choose h else (0, 0)
  have kfs : ∀ (v : Value) (p : Int × Int), Srt.IsPair s.heap v p.1 p.2 → kf v = p := fun v p hv => by
    have h : ∃ p : Int × Int, Srt.IsPair s.heap v p.1 p.2 := ⟨p, hv⟩
    have e : kf v = Classical.choose h := dif_pos h
    rw [e]
    obtain ⟨e1, e2⟩ := isPair_uniq (Classical.choose_spec h) hv
    exact Prod.ext e1 e2
  have kfp : ∀ v, v ∈ its → Srt.IsPair s.heap v (kf v).1 (kf v).2 := fun v hm => by
    obtain ⟨i, hi⟩ := List.getElem?_of_mem hm
    obtain ⟨x, p, t, _, _, _, _, hpr⟩ := hpair i v hi
    rw [kfs v p hpr]
    exact hpr
  have hlen : its.length = ps.length := r.length.symm.trans (paired_len hp)
  have hmap : its.map kf = ps := by
    refine List.ext_getElem? fun i => ?_
    rw [List.getElem?_map]
    cases e : its[i]? with
    | none =>
      have := List.getElem?_eq_none_iff.mp e
      rw [List.getElem?_eq_none_iff.mpr (by omega)]
      rfl
    | some v =>
      obtain ⟨x, p, t, _, h2, _, _, hpr⟩ := hpair i v e
      rw [h2, Option.map_some, kfs v p hpr]
  refine Calls.call_function_entry kind_sorted plain_sorted entry_sorted (args_sorted1 _) ?_
  show wpAny _ _ (do
    checkCount "sorted" 1 1 1
    let l0 ← collect (Value.ref a)
    let l ← newList l0
    let _ ← holding [l] (call (Value.builtin "list.sort") [l] [])
    ret l) _ _ _
  refine wpAny_bind (wpAny_pure (wpAny_bind (wpAny_collect_seq a (T := T) hT ho hc hd (fun h1 k1 => ?_) (by rw [List.size_toArray]; exact hz))))
  refine wpAny_bind (wpAny_newList ?_ (by rw [show its.toArray.toList = its from rfl]; exact hz))
  have hget : (h1.push { cls := Value.type "list", data := Data.seq its.toArray }).get? h1.objs.size = some (seqObj "list" its.toArray 0) := Heap.get?_push_size _ rfl
  refine wpAny_bind (wpAny_holding (wpAny_call_entry (T := "list") slot_list_sort ⟨_, hget, rfl⟩ entry_list_sort ?_ (args_list_sort _)))
  refine SrtO.list_sort_ord (SrtO.swo_lex kf) hget hz (fun h2 => SrtO.pairs_sortableO (by omega) (fun v hv => (kfp v hv).keeps fun b o e _ => Heap.get?_push_of_some _ (k1 b o e)) fun o2 e => ?_) fun out hs hst => ⟨_, rfl, wpAny_pure ⟨_, rfl, ?_⟩⟩
  · have e' : (h1.push { cls := Value.type "list", data := Data.seq its.toArray }).get? h1.objs.size = some o2 := e
    rw [hget] at e'
    cases e'
    intro z
    have z2 : ("list" : String) = "tuple" := Value.type.inj z
    exact absurd z2 (by decide)
  have I2 := I.kept (t' := s.toks) k1
  obtain ⟨e, he⟩ := sortedHeap_at (out := out.toArray) hget
  have old : ∀ (b : Addr) (u : Obj), h1.get? b = some u → (sortedHeap (h1.push { cls := Value.type "list", data := Data.seq its.toArray }) h1.objs.size its out.toArray).get? b = some u := fun b u hb => by
    have hlt := Heap.lt_size hb
    rw [sortedHeap_old (Nat.ne_of_lt hlt) (by rw [size_push']; exact Nat.lt_trans hlt (Nat.lt_succ_self _))]
    exact Heap.get?_push_of_some _ hb
  have hp0 : H h1.objs.size = none := I2.fresh
  have hmem : ∀ v, v ∈ out → ∃ (i : Nat) (t : Addr), xs[i]? = some (.ref t) ∧ ps[i]? = some (kf v) ∧ v = .ref t := fun v hv => by
    obtain ⟨i, hi⟩ := List.getElem?_of_mem (hst.perm.mem_iff.mp hv)
    obtain ⟨x, p, t, h1', h2', rfl, h4', hpr⟩ := hpair i v hi
    exact ⟨i, t, h1', by rw [kfs v p hpr]; exact h2', h4'⟩
  have hvals : Vals (out.map backR) out := by
    have : ∀ l : List Value, (∀ v ∈ l, ∃ t, v = Value.ref t) → Vals (l.map backR) l := by
      intro l
      induction l with
      | nil => intro _; exact .nil
      | cons v l ih =>
        intro h
        obtain ⟨t, rfl⟩ := h v List.mem_cons_self
        exact .cons rfl (ih fun y hy => h y (List.mem_cons_of_mem _ hy))
    exact this out fun v hv => by
      obtain ⟨_, t, _, _, e⟩ := hmem v hv
      exact ⟨t, e⟩
  have hol : out.length = its.length := hst.perm.length_eq
  have hok : ObjOk X.prog X.w (L2.upd H h1.objs.size (.lst (out.map backR))) (sortedHeap (h1.push { cls := Value.type "list", data := Data.seq its.toArray }) h1.objs.size its out.toArray) h1.objs.size (.lst (out.map backR)) := by
    refine ⟨by rw [List.length_map, hol]; exact hz, out, e, hvals, ?_⟩
    rw [he]
  refine ⟨.ref h1.objs.size, _, I2.laid old (Nat.le_refl _) hok, rfl, q (out.map backR) (out.map kf) _ (paired_map fun v hv => ?_) ?_ ?_ hp0⟩
  · obtain ⟨i, t, h1', h2', rfl⟩ := hmem v hv
    exact ⟨i, h1', h2'⟩
  · rw [← hmap]
    exact hst.perm.map kf
  · rw [List.pairwise_map]
    exact hs
def pairW (p : Int × Int) : W := .tup [.int p.1, .int p.2]
def rdSortPrs : RCD := fun ws O S => ∃ (x : W) (ps : List (Int × Int)), ws = [x] ∧ (x = .tup (ps.map pairW) ∨ ∃ k, x = .cell k ∧ LstC O k (ps.map pairW)) ∧ ∀ qs : List (Int × Int), qs.Perm ps → List.Pairwise (fun x y => SrtO.lexB y x = false) qs → S (.cell O.length) (O ++ [.lst (qs.map pairW)])
theorem src_sortPrs {K : PySem.W.Frag} : SRC K (rSortPrs K) rdSortPrs := by
  intro F H θ O vs ws S j r q Q k
  obtain ⟨x, ps, rfl, hx, q⟩ := q
  obtain ⟨v, rfl, rv⟩ := r.one_inv
  obtain ⟨a, xs, rfl, hq, rr⟩ := seq_rel j rv hx
  have hp : ∀ {xs : List V} {ps : List (Int × Int)}, RWs K F θ xs (ps.map pairW) → Paired (fun x p => ∃ t, x = V.ref t ∧ SqT K H t [.int p.1, .int p.2]) xs ps := by
    intro xs ps
    induction ps generalizing xs with
    | nil => intro h; cases h; exact .nil
    | cons p ps ih =>
      intro h
      rw [List.map_cons] at h
      cases h with
      | cons h1 h2 =>
        refine .cons ?_ (ih h2)
        obtain ⟨t, us, rfl, hq, rt⟩ := RW.tup_inv (show RW K F θ _ (.tup [.int p.1, .int p.2]) from h1)
        obtain ⟨u1, u2, rfl, ra, rb⟩ := rt.two_inv
        rw [ra.int_inv, rb.int_inv] at hq
        exact ⟨t, rfl, sqT_sub j hq⟩
  refine ⟨a, xs, ps, rfl, hq, hp rr, fun ys qs p hpr hperm hsort h0 => ?_⟩
  have ry : RWs K F θ ys (qs.map pairW) := by
    clear q hperm hsort
    induction hpr with
    | nil => exact .nil
    | cons h _ ih =>
      obtain ⟨i, h1, h2⟩ := h
      refine .cons ?_ ih
      obtain ⟨w, hw, rw'⟩ := rr.getV h1
      rw [List.getElem?_map, h2] at hw
      cases hw
      exact rw'
  exact k _ _ _ _ _ _ Gr.push (j.newL h0 ry) (.cell (by rw [← j.len]; simp)) (q qs hperm hsort)
end Dm

set_option Elab.async false
set_option linter.all false
set_option maxRecDepth 100000
set_option maxHeartbeats 4000000
/-! The data machine: a list or a tuple walked; loops that count; what laws keep. -/
namespace Dm
open PySem PySem.Spec PyProof.Rows L2
section
variable {X : Cx} {tg e : Expr} {d1 d2 : DS → Sto → (Wk → Sto → Prop) → Prop}
theorem PI.or {w1 w2 : TI} (h1 : PI X tg e w1) (h2 : PI X tg e w2) : PI X tg e (fun σ H R => w1 σ H R ∨ w2 σ H R) := ⟨fun pins s σ H R I h => h.elim (h1.run pins s σ H R I) (h2.run pins s σ H R I)⟩
theorem ei_or (h1 : EDI X tg e d1) (h2 : EDI X tg e d2) : EDI X tg e (fun δ O S => d1 δ O S ∨ d2 δ O S) := by
  obtain ⟨t1, p1, s1⟩ := h1.ex
  obtain ⟨t2, p2, s2⟩ := h2.ex
  exact ⟨_, PI.or p1 p2, fun F H θ O σ δ S j s q R k => Or.elim q (fun q => Or.inl (s1 F H θ O σ δ S j s q R k)) fun q => Or.inr (s2 F H θ O σ δ S j s q R k)⟩
end
/-- over a name that holds a list or a tuple -/
abbrev diQ (i : Nat) : DS → Sto → (Wk → Sto → Prop) → Prop := fun δ O S => diT (dVar i) δ O S ∨ diL (dVar i) δ O S
/-- a loop that counts up -/
theorem for_up {s lo hi n : Nat} {L : Int} {D : DEnds} {δ : DS} {O : Sto} {wb : DTS} (P : Nat → DS → Sto → Prop) (hL : L = (lo : Int)) (hn : n = hi - lo) (hle : lo ≤ hi) (h0 : P lo δ O)
    (hs : ∀ i δ O, lo ≤ i → i < hi → P i δ O → wb { D with nx := P (i + 1), ct := P (i + 1), bk := D.nx } (δ.set s (some (.int (i : Int)))) O) (he : ∀ δ O, P hi δ O → D.nx δ O) :
    ∃ (m : Nat) (Pv : Nat → DS → Sto → Prop), Pv 0 δ O ∧ ∀ i δ O, Pv i δ O → i ≤ m ∧ (wkR L n).ok O ∧ (match (wkR L n).at_ i O with
      | none => D.nx δ O
      | some z => i < m ∧ dgName s z δ O fun δ2 O2 => wb { D with nx := Pv (i + 1), ct := Pv (i + 1), bk := D.nx } δ2 O2) := by
  refine ⟨n, fun i δ O => i ≤ n ∧ P (lo + i) δ O, ⟨Nat.zero_le _, h0⟩, fun i δ O h => ⟨h.1, True.intro, ?_⟩⟩
  obtain ⟨hi', hp⟩ := h
  by_cases q : i < n
  · have e : (wkR L n).at_ i O = some (.int ((lo + i : Nat) : Int)) := by
      show (if i < n then _ else _) = _
      rw [if_pos q, hL]
      congr 1
    rw [e]
    refine ⟨q, ?_⟩
    have := hs (lo + i) δ O (by omega) (by omega) hp
    have ef : (fun (δ : DS) (O : Sto) => i + 1 ≤ n ∧ P (lo + (i + 1)) δ O) = P (lo + i + 1) := by
      funext δ O
      apply propext
      exact ⟨fun h => h.2, fun h => ⟨by omega, h⟩⟩
    show wb { D with nx := fun δ O => i + 1 ≤ n ∧ P (lo + (i + 1)) δ O, ct := fun δ O => i + 1 ≤ n ∧ P (lo + (i + 1)) δ O, bk := D.nx } _ O
    rw [ef]
    exact this
  · have e : (wkR L n).at_ i O = none := by
      show (if i < n then _ else _) = _
      rw [if_neg q]
    rw [e]
    have : lo + i = hi := by omega
    rw [this] at hp
    exact he δ O hp
theorem log2_add (a b : Nat) : (a + b).log2 ≤ max a.log2 b.log2 + 1 := by
  by_cases h : a + b = 0
  · have : a = 0 := by omega
    have : b = 0 := by omega
    subst a; subst b
    exact Nat.zero_le _
  · have h1 : a < 2 ^ (a.log2 + 1) := Nat.lt_log2_self
    have h2 : b < 2 ^ (b.log2 + 1) := Nat.lt_log2_self
    have p1 : 2 ^ (a.log2 + 1) ≤ 2 ^ (max a.log2 b.log2 + 1) := Nat.pow_le_pow_right (by decide) (by omega)
    have p2 : 2 ^ (b.log2 + 1) ≤ 2 ^ (max a.log2 b.log2 + 1) := Nat.pow_le_pow_right (by decide) (by omega)
    have : a + b < 2 ^ (max a.log2 b.log2 + 1 + 1) := by
      rw [Nat.pow_succ]
      omega
    have := (Nat.log2_lt h).mpr this
    omega
theorem log2_iadd {x y : Int} {k : Nat} (hx : x.natAbs.log2 ≤ k) (hy : y.natAbs.log2 ≤ k) : (x + y).natAbs.log2 ≤ k + 1 := by
  have h1 : (x + y).natAbs ≤ x.natAbs + y.natAbs := Int.natAbs_add_le _ _
  have h2 := log2_le h1
  have h3 := log2_add x.natAbs y.natAbs
  omega
theorem bits_log {z : Int} (h : Builtin.Int.intBits z ≤ 1048576) : z.natAbs.log2 ≤ 1048576 := by
  unfold Builtin.Int.intBits at h
  split at h
  · rename_i e
    have e := eq_of_beq e
    rw [show z.natAbs = 0 by omega]
    exact Nat.zero_le _
  · omega
theorem small_log {x : Int} {n k : Nat} (h : x.natAbs < 2 ^ n) (hn : 0 < n) (hk : n ≤ k + 1) : x.natAbs.log2 ≤ k := by
  by_cases e : x.natAbs = 0
  · rw [e]
    exact Nat.zero_le _
  · have := (Nat.log2_lt e).mpr h
    omega
/-- a thing is the list or the tuple of these -/
def Items (O : Sto) (x : W) (us : List W) : Prop := x = .tup us ∨ ∃ k, x = .cell k ∧ LstC O k us
theorem Items.sm {O O' : Sto} {x : W} {us : List W} (h : Items O x us) (s : Sm O O') : Items O' x us := h.elim .inl fun ⟨k, e, c⟩ => .inr ⟨k, e, s.lstC c⟩
theorem Items.ty {O : Sto} {x : W} {us : List W} (h : Items O x us) : tyW x O = some "tuple" ∨ tyW x O = some "list" := by
  rcases h with rfl | ⟨k, rfl, c | c⟩
  · exact .inl rfl
  · refine .inr ?_
    show (match O[k]? with | some (.lst _) => some "list" | some (.rol _) => some "list" | some (.dct _) => some "dict" | _ => none) = _
    rw [c]
  · refine .inr ?_
    show (match O[k]? with | some (.lst _) => some "list" | some (.rol _) => some "list" | some (.dct _) => some "dict" | _ => none) = _
    rw [c]
/-- a comprehension over a list or a tuple -/
theorem ev_lcQ {δ : DS} {O : Sto} {S : WK} {i : Nat} {f : W → W} {g : DG} {we : DE} {vs : List Nat} {x : W} {zs : List W} (h : δ[i]? = some (some x)) (hk : Items O x zs) (hl : zs.length ≤ 1000000) (hel : ∀ (i : Nat) (z : W), zs[i]? = some z → ∀ O', Sm O O' → ∀ S1 : WK, (∀ O2, Sm O' O2 → S1 (f z) O2) → g z (wipeD δ vs) O' fun δ2 O2 => we δ2 O2 S1)
    (fin : ∀ O', Sm O O' → O'[O.length]? = some (.lst (zs.map f)) → S (.cell O.length) O') : dLc (diQ i) g dYes we vs δ O S := by
  rcases hk with rfl | ⟨k, rfl, c⟩
  · exact .inl (ev_lcT h hl hel fin)
  · exact .inr (ev_lcL h c hl hel fin)
theorem fd_sm {O O' : Sto} {k n : Nat} (h : Fd O k n) (s : Sm O O') : Fd O' k n := by
  obtain ⟨a, b, c, e, q⟩ := h
  exact ⟨a, b, c, s _ _ e, q⟩
theorem Sm.kp {k : Nat} {O O' : Sto} (s : Sm O O') : Kp k O O' := ⟨s.len, fun i c _ h => s i c h⟩
theorem ev_op {r : R2D} {wa wb : DE} {δ : DS} {O : Sto} {S : WK} (h : wa δ O fun x O1 => wb δ O1 fun y O2 => r x y O2 S) : dOp r wa wb δ O S := h
theorem ev_call {sp : SpD} {wa : DA} {δ : DS} {O : Sto} {S : WK} (h : wa δ O fun ws O1 => sp ws O1 S) : dCall sp wa δ O S := h
theorem ev_CB {rd : RCD} {wa : DA} {δ : DS} {O : Sto} {S : WK} (h : wa δ O fun ws O1 => rd ws O1 S) : dCB rd wa δ O S := h
theorem ev_cons1 {w : DE} {δ : DS} {O : Sto} {S : List W → Sto → Prop} (h : w δ O fun x O1 => S [x] O1) : dCons w dNil δ O S := h
/-- a loop over a list that the body leaves as it is -/
theorem for_lst {k : Nat} {zs : List W} {D : DEnds} {δ : DS} {O : Sto} {g : DG} {wb : DTS} (P : Nat → DS → Sto → Prop) (h0 : P 0 δ O) (hl : ∀ i δ O, P i δ O → LstC O k zs)
    (hs : ∀ i z δ O, zs[i]? = some z → P i δ O → g z δ O fun δ2 O2 => wb { D with nx := P (i + 1), ct := P (i + 1), bk := D.nx } δ2 O2) (he : ∀ δ O, P zs.length δ O → D.nx δ O) :
    ∃ (n : Nat) (Pv : Nat → DS → Sto → Prop), Pv 0 δ O ∧ ∀ i δ O, Pv i δ O → i ≤ n ∧ (wkL k).ok O ∧ (match (wkL k).at_ i O with
      | none => D.nx δ O
      | some z => i < n ∧ g z δ O fun δ2 O2 => wb { D with nx := Pv (i + 1), ct := Pv (i + 1), bk := D.nx } δ2 O2) := by
  refine ⟨zs.length, fun i δ O => i ≤ zs.length ∧ P i δ O, ⟨Nat.zero_le _, h0⟩, fun i δ O h => ⟨h.1, ⟨zs, hl i δ O h.2⟩, ?_⟩⟩
  obtain ⟨hi', hp⟩ := h
  rw [wkL_at (hl i δ O hp)]
  cases hz : zs[i]? with
  | none =>
    have hn := List.getElem?_eq_none_iff.mp hz
    have : i = zs.length := by omega
    subst this
    exact he δ O hp
  | some z =>
    have hlt := (List.getElem?_eq_some_iff.mp hz).1
    refine ⟨hlt, ?_⟩
    have ef : (fun (δ : DS) (O : Sto) => i + 1 ≤ zs.length ∧ P (i + 1) δ O) = P (i + 1) := by
      funext δ O
      apply propext
      exact ⟨fun h => h.2, fun h => ⟨hlt, h⟩⟩
    show g z δ O fun δ2 O2 => wb { D with nx := fun δ O => i + 1 ≤ zs.length ∧ P (i + 1) δ O, ct := fun δ O => i + 1 ≤ zs.length ∧ P (i + 1) δ O, bk := D.nx } δ2 O2
    rw [ef]
    exact hs i z δ O hz hp
theorem cut_upto {α : Type} (f : α → W) (xs : List α) (m : Nat) : cutW (xs.map f) none (some (m : Int)) = (xs.take m).map f := by
  unfold cutW
  rw [show HT.sIx (xs.map f).length 0 none = 0 from rfl, HT.sIx_nat, List.length_map, List.drop_zero, Nat.sub_zero, ← List.map_take]
  congr 1
  rw [List.take_eq_take_iff]
  omega
theorem cut_take {α : Type} (f : α → W) (xs : List α) {m : Nat} (hm : m ≤ xs.length) : cutW (xs.map f) none (some (m : Int)) = (xs.take m).map f := by
  unfold cutW
  rw [show HT.sIx (xs.map f).length 0 none = 0 from rfl, HT.sIx_nat, List.length_map, List.drop_zero, Nat.sub_zero, Nat.min_eq_left hm, ← List.map_take]
theorem cut_drop {α : Type} (f : α → W) (xs : List α) {m : Nat} (hm : m ≤ xs.length) : cutW (xs.map f) (some (m : Int)) none = (xs.drop m).map f := by
  unfold cutW
  rw [show HT.sIx (xs.map f).length (xs.map f).length none = (xs.map f).length from rfl, HT.sIx_nat, List.length_map, Nat.min_eq_left hm, ← List.map_drop]
  exact List.take_of_length_le (by rw [List.length_map, List.length_drop]; exact Nat.le_refl _)
theorem at_nat {α : Type} {xs : List α} {i : Nat} {x : α} (h : xs[i]? = some x) : atI xs (i : Int) = some x := atI_nat h
/-- one of the things of a list -/
def sp_law_oneL : SpD := fun ws O S => ∃ (k j : Nat) (us : List W) (n : Nat), ws = [.cell k, .cell j] ∧ j ≠ k ∧ LstC O j us ∧ us ≠ [] ∧ us.length < 100000 ∧ Fd O k (n + 1) ∧ ∀ w O', w ∈ us → Kp k O O' → Fd O' k n → S w O'
theorem rd_law_oneL (ws : List W) (O : Sto) (S : WK) (h : sp_law_oneL ws O S) : d_law_one (outB S) (startD ["_law_feed_here", "_law_things"] ws) O := by
  obtain ⟨k, j, us, n, rfl, ne, hc, hu, hl, hf, q⟩ := h
  have hp := List.length_pos_iff.mpr hu
  have big : (100000 : Int) < 2 ^ 300 := by decide +kernel
  refine ⟨_, rfl, _, rfl, _, rfl, .inr ⟨j, _, rfl, hc, k, (us.length : Int), n, rfl, by omega, by omega, hf, fun r O' r0 r1 kp fd => ?_⟩⟩
  obtain ⟨w, hw, ha⟩ := atI_in r0 r1
  exact ⟨j, us, r, w, rfl, rfl, kp.lstC ne hc, ha, q w O' hw kp fd⟩
end Dm

set_option Elab.async false
set_option linter.all false
/-! How many two of a list stand so; crossings, inversions. -/
namespace Cross
/-- how many pairs, the one ahead of the other, are related -/
def cnt {α : Type} (R : α → α → Bool) : List α → Nat
  | [] => 0
  | x :: l => (l.filter (R x)).length + cnt R l
theorem filter_perm {α : Type} {p : α → Bool} {l m : List α} (h : l.Perm m) : (l.filter p).length = (m.filter p).length := (h.filter p).length_eq
theorem cnt_perm {α : Type} {R : α → α → Bool} (hs : ∀ x y, R x y = R y x) {l m : List α} (h : l.Perm m) : cnt R l = cnt R m := by
  induction h with
  | nil => rfl
  | cons x h ih =>
    show (_ : Nat) + _ = _ + _
    rw [filter_perm h, ih]
  | swap x y l =>
    show ((x :: l).filter (R y)).length + ((l.filter (R x)).length + cnt R l) = ((y :: l).filter (R x)).length + ((l.filter (R y)).length + cnt R l)
    rw [List.filter_cons, List.filter_cons, hs y x]
    cases R x y with
    | true =>
      rw [if_pos rfl, if_pos rfl, List.length_cons, List.length_cons]
      omega
    | false =>
      rw [if_neg (by decide), if_neg (by decide)]
      omega
  | trans _ _ ih1 ih2 => exact ih1.trans ih2
theorem cnt_map {α β : Type} (f : α → β) (R : β → β → Bool) : ∀ l : List α, cnt R (l.map f) = cnt (fun x y => R (f x) (f y)) l
  | [] => rfl
  | x :: l => by
    show ((l.map f).filter (R (f x))).length + cnt R (l.map f) = (l.filter _).length + _
    rw [cnt_map f R l, List.filter_map, List.length_map]
    rfl
theorem filter_congr {α : Type} {p q : α → Bool} : ∀ {l : List α}, (∀ x ∈ l, p x = q x) → l.filter p = l.filter q
  | [], _ => rfl
  | x :: l, h => by
    rw [List.filter_cons, List.filter_cons, h x List.mem_cons_self, filter_congr fun y hy => h y (List.mem_cons_of_mem _ hy)]
/-- related alike where the one stands ahead -/
theorem cnt_congr {α : Type} {R Q : α → α → Bool} : ∀ {l : List α}, l.Pairwise (fun x y => R x y = Q x y) → cnt R l = cnt Q l
  | [], _ => rfl
  | x :: l, h => by
    cases h with
    | cons h1 h2 =>
      show (l.filter (R x)).length + _ = (l.filter (Q x)).length + _
      rw [filter_congr h1, cnt_congr h2]
theorem cnt_same {α : Type} {R Q : α → α → Bool} (h : ∀ x y, R x y = Q x y) (l : List α) : cnt R l = cnt Q l := by
  have : R = Q := funext fun x => funext fun y => h x y
  rw [this]
/-- pairs of an entry of the one and one of the other -/
def across {α : Type} (R : α → α → Bool) (l m : List α) : Nat := match l with
  | [] => 0
  | x :: l => (m.filter (R x)).length + across R l m
theorem across_nil {α : Type} (R : α → α → Bool) : ∀ l : List α, across R l [] = 0
  | [] => rfl
  | x :: l => by
    show 0 + across R l [] = 0
    rw [across_nil R l]
theorem across_cons {α : Type} (R : α → α → Bool) (y : α) (m : List α) : ∀ l : List α, across R l (y :: m) = (l.filter fun x => R x y).length + across R l m
  | [] => rfl
  | x :: l => by
    show ((y :: m).filter (R x)).length + across R l (y :: m) = _ + ((m.filter (R x)).length + across R l m)
    rw [across_cons R y m l, List.filter_cons, List.filter_cons]
    cases h : R x y with
    | true =>
      rw [if_pos rfl, if_pos rfl, List.length_cons, List.length_cons]
      omega
    | false =>
      rw [if_neg (by decide), if_neg (by decide)]
      omega
theorem cnt_append {α : Type} (R : α → α → Bool) (m : List α) : ∀ l : List α, cnt R (l ++ m) = cnt R l + cnt R m + across R l m
  | [] => by
    show cnt R m = 0 + cnt R m + 0
    omega
  | x :: l => by
    show ((l ++ m).filter (R x)).length + cnt R (l ++ m) = ((l.filter (R x)).length + cnt R l) + cnt R m + ((m.filter (R x)).length + across R l m)
    rw [cnt_append R m l, List.filter_append, List.length_append]
    omega
theorem across_perm_r {α : Type} {R : α → α → Bool} {m m' : List α} (h : m.Perm m') : ∀ l : List α, across R l m = across R l m'
  | [] => rfl
  | x :: l => by
    show _ + _ = _ + _
    rw [filter_perm h, across_perm_r h l]
theorem across_perm_l {α : Type} {R : α → α → Bool} {l l' : List α} (h : l.Perm l') (m : List α) : across R l m = across R l' m := by
  induction m with
  | nil => rw [across_nil, across_nil]
  | cons y m ih => rw [across_cons, across_cons, ih, filter_perm h]
def gtI (x y : Int) : Bool := decide (y < x)
def inv (ns : List Int) : Nat := cnt gtI ns
def crR (p q : Int × Int) : Bool := (decide (p.1 < q.1) && decide (q.2 < p.2)) || (decide (q.1 < p.1) && decide (p.2 < q.2))
def apR (p q : Int × Int) : Bool := decide (p.1 ≠ q.1) && decide (p.2 ≠ q.2)
theorem crR_symm (p q : Int × Int) : crR p q = crR q p := by
  unfold crR
  rw [Bool.or_comm]
theorem crR_iff {p q : Int × Int} : crR p q = true ↔ (p.1 < q.1 ∧ q.2 < p.2) ∨ (q.1 < p.1 ∧ p.2 < q.2) := by
  unfold crR
  simp [Bool.or_eq_true, Bool.and_eq_true]
theorem apR_iff {p q : Int × Int} : apR p q = true ↔ p.1 ≠ q.1 ∧ p.2 ≠ q.2 := by
  unfold apR
  simp
def cross (ps : List (Int × Int)) : Nat := cnt crR ps
def apart (ps : List (Int × Int)) : Nat := cnt apR ps
theorem cross_perm {ps qs : List (Int × Int)} (h : ps.Perm qs) : cross ps = cross qs := cnt_perm crR_symm h
theorem bool_ext {a b : Bool} (h : a = true ↔ b = true) : a = b := by
  cases a <;> cases b <;> simp at h ⊢
/-- of pairs that ascend, the inversions of the second ones -/
theorem cross_sorted {qs : List (Int × Int)} (h : qs.Pairwise fun x y => x.1 < y.1 ∨ (x.1 = y.1 ∧ x.2 ≤ y.2)) : inv (qs.map (·.2)) = cross qs := by
  unfold inv cross
  rw [cnt_map]
  refine cnt_congr (h.imp fun {x y} hxy => bool_ext ?_)
  show decide (y.2 < x.2) = true ↔ _
  rw [crR_iff, decide_eq_true_iff]
  omega
theorem cross_swap (ps : List (Int × Int)) : cross (ps.map fun p => (p.2, p.1)) = cross ps := by
  unfold cross
  rw [cnt_map]
  refine cnt_same (fun x y => bool_ext ?_) ps
  rw [crR_iff, crR_iff]
  show (x.2 < y.2 ∧ y.1 < x.1) ∨ (y.2 < x.2 ∧ x.1 < y.1) ↔ _
  omega
theorem cross_move (d : Int) (ps : List (Int × Int)) : cross (ps.map fun p => (p.1 + d, p.2 - d)) = cross ps := by
  unfold cross
  rw [cnt_map]
  refine cnt_same (fun x y => bool_ext ?_) ps
  rw [crR_iff, crR_iff]
  show (x.1 + d < y.1 + d ∧ y.2 - d < x.2 - d) ∨ (y.1 + d < x.1 + d ∧ x.2 - d < y.2 - d) ↔ _
  omega
theorem cnt_split {α : Type} {R Q T : α → α → Bool} (h : ∀ x y, (T x y = true ↔ R x y = true ∨ Q x y = true) ∧ ¬ (R x y = true ∧ Q x y = true)) : ∀ l : List α, cnt R l + cnt Q l = cnt T l
  | [] => rfl
  | x :: l => by
    show ((l.filter (R x)).length + cnt R l) + ((l.filter (Q x)).length + cnt Q l) = (l.filter (T x)).length + cnt T l
    have ih := cnt_split h l
    have : ∀ m : List α, (m.filter (R x)).length + (m.filter (Q x)).length = (m.filter (T x)).length := by
      intro m
      induction m with
      | nil => rfl
      | cons y m ih2 =>
        rw [List.filter_cons, List.filter_cons, List.filter_cons]
        obtain ⟨h1, h2⟩ := h x y
        cases hr : R x y <;> cases hq : Q x y <;> cases ht : T x y <;> simp [hr, hq, ht] at h1 h2 ⊢ <;> omega
    have := this l
    omega
theorem cross_neg (ps : List (Int × Int)) : cross (ps.map fun p => (p.1, 0 - p.2)) + cross ps = apart ps := by
  unfold cross apart
  rw [cnt_map]
  refine cnt_split (fun x y => ?_) ps
  rw [crR_iff, crR_iff, apR_iff]
  show (_ ↔ ((x.1 < y.1 ∧ 0 - y.2 < 0 - x.2) ∨ (y.1 < x.1 ∧ 0 - x.2 < 0 - y.2)) ∨ _) ∧ ¬ (((x.1 < y.1 ∧ 0 - y.2 < 0 - x.2) ∨ (y.1 < x.1 ∧ 0 - x.2 < 0 - y.2)) ∧ _)
  omega
/-- the same, counted from behind -/
theorem cnt_snoc {α : Type} {R : α → α → Bool} (hs : ∀ x y, R x y = R y x) (l : List α) (x : α) : cnt R (l ++ [x]) = cnt R l + (l.filter fun y => R x y).length := by
  rw [cnt_append]
  show cnt R l + (0 + 0) + across R l [x] = _
  rw [across_cons, across_nil]
  have : (fun y => R y x) = fun y => R x y := funext fun y => hs y x
  rw [this]
  omega
end Cross

set_option Elab.async false
set_option linter.all false
set_option maxRecDepth 100000
set_option maxHeartbeats 4000000
/-! k28: the promises. -/
namespace K28
open PySem PySem.Spec PyProof.Rows L2 Dm
def sp_greater : SpD := fun ws O S => ∃ (j k : Nat) (a b : List Int), ws = [.cell j, .cell k] ∧ LstC O j (a.map W.int) ∧ LstC O k (b.map W.int) ∧ a.Pairwise (· ≤ ·) ∧ b.Pairwise (· ≤ ·) ∧ S (.int (Cross.across Cross.gtI a b : Nat)) O
def sp_tr (n : Nat) : SpD := fun ws O S => ∃ (k : Nat) (ns : List Int), ws = [.cell k] ∧ LstC O k (ns.map W.int) ∧ ns.length < n ∧ ∀ O', Sm O O' → S (.int (Cross.inv ns : Nat)) O'
/-- a link -/
def mLink : W → Bool
  | .tup [.int _, .int _] => true
  | _ => false
/-- what is_link may be asked of -/
def VwL (O : Sto) (w : W) : Prop := Vw O w ∧ ∀ a b, w = .tup [a, b] → Vw O a ∧ Vw O b
def sp_is_link : SpD := fun ws O S => ∃ w, ws = [w] ∧ VwL O w ∧ S (.bl (mLink w)) O
/-- what are no links -/
def NoLinks (O : Sto) (x : W) : Prop := (Vw O x ∧ tyW x O ≠ some "list" ∧ tyW x O ≠ some "tuple") ∨ ∃ us, Items O x us ∧ us.length ≤ 100 ∧ (∀ u ∈ us, VwL O u) ∧ ∃ u ∈ us, mLink u = false
def Good (O : Sto) (x : W) (ps : List (Int × Int)) : Prop := Items O x (ps.map pairW) ∧ ps.length ≤ 40
def spx_crossings (K : PySem.W.Frag) : SpX := fun ws O S T => ∃ x, ws = [x] ∧ ((∃ ps, Good O x ps ∧ ∀ O', Sm O O' → S (.int (Cross.cross ps : Nat)) O') ∨ (NoLinks O x ∧ ∀ O', Sm O O' → T (.ref (He.ga K "BadLinks")) none O'))
def sp_crossings : SpD := fun ws O S => ∃ x ps, ws = [x] ∧ Good O x ps ∧ ∀ O', Sm O O' → S (.int (Cross.cross ps : Nat)) O'
def sp_law_feed : SpD := fun ws O S => ∃ (k : Nat) (ns : List Int) (i : Int), ws = [.cell k, .int i] ∧ LstC O k (ns.map W.int) ∧ (∀ z ∈ ns, Builtin.Int.intBits z ≤ 1048576) ∧ ns.length ≤ 1000 ∧ 0 ≤ i ∧ i < 1000 ∧ ∀ m O', Sm O O' → O.length ≤ m → Fd O' m 1000000 → S (.cell m) O'
def sp_mixed : SpD := fun ws O S => ∃ (k j n : Nat) (ps : List (Int × Int)), ws = [.cell k, .cell j] ∧ j ≠ k ∧ LstC O j (ps.map pairW) ∧ ps.length ≤ 40 ∧ Fd O k (n + 40) ∧ ∀ (m : Nat) (qs : List (Int × Int)) (O' : Sto), qs.Perm ps → Kp k O O' → Fd O' k n → LstC O' m (qs.map pairW) → S (.cell m) O'
def sp_is : SpD := fun ws O S => ∃ a b : Int, ws = [.int a, .int b] ∧ S (.bl (decide (a = b))) O
def sp_crossed : SpD := fun ws O S => ∃ (k : Nat) (ps : List (Int × Int)), ws = [.cell k] ∧ LstC O k (ps.map pairW) ∧ ps.length ≤ 40 ∧ S (.tup [.int (Cross.cross ps : Nat), .int (Cross.apart ps : Nat)]) O
def sp_refused : SpD := fun ws O S => ∃ x, ws = [x] ∧ NoLinks O x ∧ ∀ O', Sm O O' → S (.bl true) O'
def sp_right : SpD := fun ws O S => ∃ k : Nat, ws = [.cell k] ∧ Fd O k 1000000 ∧ ∀ O', Kp k O O' → S (.bl true) O'
def sp_law : SpD := fun ws O S => ∃ ns : List Int, ws = [.cell 0] ∧ O = [.rol (ns.map W.int)] ∧ (∀ z ∈ ns, Builtin.Int.intBits z ≤ 1048576) ∧ ns.length ≤ 63 ∧ ∀ O', S (.bl true) O'
end K28

set_option Elab.async false
set_option linter.all false
set_option maxRecDepth 100000
set_option maxHeartbeats 4000000
/-! k28: the texts, the derivations. -/
namespace K28
open PySem PySem.Spec PyProof.Rows L2 Dm
def topS (i : Nat) : Stmt := PySem.Challenge.pw_pairedtongues_k28_crossings_counted.main.body.getD i (.Pass ⟨0, 0, 0, 0⟩)
abbrev FnP (K : PySem.W.Frag) (x : Str) (st : Stmt) (f : Addr) (fd : FuncData) : Prop := FunD K x x (defArgs st) (defBody st) (defScope st) [] [] f fd
section
variable {P : Program} {w : World} {K : PySem.W.Frag} {mg : Str → Option Value} {base : Heap}

abbrev sis_integer : Stmt := topS 1
theorem scis_integer : FnScope ["thing"] ["thing"] (defScope sis_integer) := ⟨rfl, rfl, rfl, by decide +kernel, rfl, by decide +kernel, by decide +kernel⟩
theorem okis_integer {f : Addr} {fd : FuncData} (F : FnP K "is_integer" sis_integer f fd) (z_isinstance : mg "isinstance" = none) (z_int : mg "int" = none) (z_bool : mg "bool" = none)    
    (len : ∀ ws O S, sp_is_integer ws O S → ws.length = 1) (rd : ∀ ws O S, sp_is_integer ws O S → Dm.d_is_integer (outB S) (startD ["thing"] ws) O) : FnG P w K mg base 1 f fd ["thing"] sp_is_integer := by
  refine FunG F scis_integer len fun cdv A outer s H hr => ?_
  have sc := scis_integer
  exact ⟨Dm.d_is_integer, (eb_one (es_ret (ed_and (ed_callB call_isi src_isi (by rfl) z_isinstance (by decide +kernel) (ea_cons (dv 0) (ea_cons (ed_bltn (by rfl) z_int (by decide +kernel)) ea_nil))) (ed_one (ed_not (ed_callB call_isi src_isi (by rfl) z_isinstance (by decide +kernel) (ea_cons (dv 0) (ea_cons (ed_bltn (by rfl) z_bool (by decide +kernel)) ea_nil)))))))), fun ws O S h => rd ws O S h⟩
abbrev sis_tuple : Stmt := topS 2
theorem scis_tuple : FnScope ["thing", "least", "most"] ["thing", "least", "most"] (defScope sis_tuple) := ⟨rfl, rfl, rfl, by decide +kernel, rfl, by decide +kernel, by decide +kernel⟩
theorem okis_tuple {f : Addr} {fd : FuncData} (F : FnP K "is_tuple" sis_tuple f fd) (z_isinstance : mg "isinstance" = none) (z_tuple : mg "tuple" = none) (z_len : mg "len" = none)    
    (len : ∀ ws O S, sp_is_tuple ws O S → ws.length = 3) (rd : ∀ ws O S, sp_is_tuple ws O S → Dm.d_is_tuple (outB S) (startD ["thing", "least", "most"] ws) O) : FnG P w K mg base 1 f fd ["thing", "least", "most"] sp_is_tuple := by
  refine FunG F scis_tuple len fun cdv A outer s H hr => ?_
  have sc := scis_tuple
  exact ⟨Dm.d_is_tuple, (eb_one (es_ret (ed_and (ed_callB call_isi src_isi (by rfl) z_isinstance (by decide +kernel) (ea_cons (dv 0) (ea_cons (ed_bltn (by rfl) z_tuple (by decide +kernel)) ea_nil))) (ed_one (ed_chain op_le op_le (sr_I0 fun _ _ _ _ => .bl _) (sr_I0 fun _ _ _ _ => .bl _) (dv 1) (ed_callB call_len_seq src_len (by rfl) z_len PySem.boot_len (ea_cons (dv 0) ea_nil)) (dv 2)))))), fun ws O S h => rd ws O S h⟩
abbrev sgreater_ones : Stmt := topS 9
theorem scgreater_ones : FnScope ["first", "second", "pairs", "passed", "number"] ["first", "second"] (defScope sgreater_ones) := ⟨rfl, rfl, rfl, by decide +kernel, rfl, by decide +kernel, by decide +kernel⟩
abbrev ngreater_ones : List Str := ["first", "second", "pairs", "passed", "number"]
def dgreater_ones : DTS := (dSeq (dSet 2 (dC (.int 0)))
    (dSeq (dSet 3 (dC (.int 0)))
    (dSeq (dFor (diL (dVar 1)) (dgName 4) (dSeq (dWhile (dAnd (dTest (dLt (dVar 3) (dCB rdLen (dCons (dVar 0) dNil)))) (dTest (dLe (dOp rdIxL (dVar 0) (dVar 3)) (dVar 4)))) (dAug 3 (dC (.int 1)) fun n m => n + m))
    (dAug 2 (dSub (dCB rdLen (dCons (dVar 0) dNil)) (dVar 3)) fun n m => n + m)))
    (dRet (dVar 2)))))
theorem okgreater_ones {f : Addr} {fd : FuncData} (F : FnP K "greater_ones" sgreater_ones f fd) (z_len : mg "len" = none)    
    (len : ∀ ws O S, sp_greater ws O S → ws.length = 2) (rd : ∀ ws O S, sp_greater ws O S → dgreater_ones (outB S) (startD ["first", "second", "pairs", "passed", "number"] ws) O) : FnG P w K mg base 1 f fd ["first", "second"] sp_greater := by
  refine FunG F scgreater_ones len fun cdv A outer s H hr => ?_
  have sc := scgreater_ones
  exact ⟨dgreater_ones, (eb_cons (es_set (i := 2) sc.nd rfl (by first | exact Or.inl rfl | exact Or.inr rfl) ed_int)
      (eb_cons (es_set (i := 3) sc.nd rfl (by first | exact Or.inl rfl | exact Or.inr rfl) ed_int)
      (eb_cons (es_for PassesOwn.never rfl (ei_lst (dv 1)) (eg_name (i := 4) sc.nd rfl (by first | exact Or.inl rfl | exact Or.inr rfl)) (eb_cons (es_while PassesOwn.never (ew_and (et_lt (dv 3) (ed_callB call_len_seq src_len (by rfl) z_len PySem.boot_len (ea_cons (dv 0) ea_nil))) (ew_and1 (et_le (ed_ixL (dv 0) (dv 3)) (dv 4)))).t (eb_one (es_augAdd (i := 3) sc.nd rfl (by first | exact Or.inl rfl | exact Or.inr rfl) ed_int)))
      (eb_one (es_augAdd (i := 2) sc.nd rfl (by first | exact Or.inl rfl | exact Or.inr rfl) (ed_sub (ed_callB call_len_seq src_len (by rfl) z_len PySem.boot_len (ea_cons (dv 0) ea_nil)) (dv 3))))))
      (eb_one (es_ret (dv 2)))))), fun ws O S h => rd ws O S h⟩
abbrev sturned_round : Stmt := topS 8
theorem scturned_round : FnScope ["numbers", "middle", "first", "second"] ["numbers"] (defScope sturned_round) := ⟨rfl, rfl, rfl, by decide +kernel, rfl, by decide +kernel, by decide +kernel⟩
abbrev nturned_round : List Str := ["numbers", "middle", "first", "second"]
def dturned_round (n : Nat) : DTS := (dSeq (dIf (dTest (dLt (dCB rdLen (dCons (dVar 0) dNil)) (dC (.int 2)))) (dRet (dC (.int 0))) dNext)
    (dSeq (dSet 1 (dDiv (dCB rdLen (dCons (dVar 0) dNil)) (dC (.int 2))))
    (dSeq (dPar 2 3 (dCons (dSlL (dVar 0) dNoPart (dPart (dVar 1))) (dCons (dSlL (dVar 0) (dPart (dVar 1)) dNoPart) dNil)))
    (dRet (dAdd (dAdd (dCall (sp_tr n) (dCons (dVar 2) dNil)) (dCall (sp_tr n) (dCons (dVar 3) dNil))) (dCall sp_greater (dCons (dCB rdSorted (dCons (dVar 2) dNil)) (dCons (dCB rdSorted (dCons (dVar 3) dNil)) dNil))))))))
theorem okturned_round (n : Nat) {f : Addr} {fd : FuncData} (F : FnP K "turned_round" sturned_round f fd) (z_len : mg "len" = none) (z_sorted : mg "sorted" = none)    {fgreater_ones : Addr} {fdgreater_ones : FuncData} (Ggreater_ones : FnG P w K mg base 1 fgreater_ones fdgreater_ones ["first", "second"] sp_greater) (ggreater_ones : mg "greater_ones" = some (.ref fgreater_ones)) (kgreater_ones : PySem.W.keepIn K (.ref fgreater_ones) = true) (bgreater_ones : Binds K fdgreater_ones ["first", "second"] []) {fturned_round : Addr} {fdturned_round : FuncData} (Gturned_round : FnG P w K mg base (n + 2) fturned_round fdturned_round ["numbers"] (sp_tr n)) (gturned_round : mg "turned_round" = some (.ref fturned_round)) (kturned_round : PySem.W.keepIn K (.ref fturned_round) = true) (bturned_round : Binds K fdturned_round ["numbers"] []) 
    (len : ∀ ws O S, (sp_tr (n + 1)) ws O S → ws.length = 1) (rd : ∀ ws O S, (sp_tr (n + 1)) ws O S → (dturned_round n) (outB S) (startD ["numbers", "middle", "first", "second"] ws) O) : FnG P w K mg base (n + 3) f fd ["numbers"] (sp_tr (n + 1)) := by
  refine FunG F scturned_round len fun cdv A outer s H hr => ?_
  have sc := scturned_round
  exact ⟨(dturned_round n), (eb_cons (es_if (et_lt (ed_callB call_len_seq src_len (by rfl) z_len PySem.boot_len (ea_cons (dv 0) ea_nil)) ed_int) (eb_one (es_ret ed_int)) eb_nil)
      (eb_cons (es_set (i := 1) sc.nd rfl (by first | exact Or.inl rfl | exact Or.inr rfl) (ed_div (ed_callB call_len_seq src_len (by rfl) z_len PySem.boot_len (ea_cons (dv 0) ea_nil)) ed_int))
      (eb_cons (es_par (i := 2) (j := 3) rfl sc.nd rfl rfl (by decide) rfl rfl (ea_cons (ed_slL (dv 0) eo_none (eo_some (dv 1))) (ea_cons (ed_slL (dv 0) (eo_some (dv 1)) eo_none) ea_nil)))
      (eb_one (es_ret (ed_add (ed_add (ed_call Gturned_round (hr.mono (by omega)) (by rfl) gturned_round kturned_round bturned_round (ea_cons (dv 2) ea_nil)) (ed_call Gturned_round (hr.mono (by omega)) (by rfl) gturned_round kturned_round bturned_round (ea_cons (dv 3) ea_nil))) (ed_call Ggreater_ones (hr.mono (by omega)) (by rfl) ggreater_ones kgreater_ones bgreater_ones (ea_cons (ed_callB cr_sortedI src_sorted (by rfl) z_sorted (by decide +kernel) (ea_cons (dv 2) ea_nil)) (ea_cons (ed_callB cr_sortedI src_sorted (by rfl) z_sorted (by decide +kernel) (ea_cons (dv 3) ea_nil)) ea_nil))))))))), fun ws O S h => rd ws O S h⟩
abbrev sis_link : Stmt := topS 12
theorem scis_link : FnScope ["thing"] ["thing"] (defScope sis_link) := ⟨rfl, rfl, rfl, by decide +kernel, rfl, by decide +kernel, by decide +kernel⟩
abbrev nis_link : List Str := ["thing"]
def dis_link : DTS := (dRet (dAndV (dCall sp_is_tuple (dCons (dVar 0) (dCons (dC (.int 2)) (dCons (dC (.int 2)) dNil)))) (dAndV (dCall sp_is_integer (dCons (dOp rdIxT (dVar 0) (dC (.int 0))) dNil)) (dCall sp_is_integer (dCons (dOp rdIxT (dVar 0) (dC (.int 1))) dNil)))))
theorem okis_link {f : Addr} {fd : FuncData} (F : FnP K "is_link" sis_link f fd)     {fis_tuple : Addr} {fdis_tuple : FuncData} (Gis_tuple : FnG P w K mg base 1 fis_tuple fdis_tuple ["thing", "least", "most"] sp_is_tuple) (gis_tuple : mg "is_tuple" = some (.ref fis_tuple)) (kis_tuple : PySem.W.keepIn K (.ref fis_tuple) = true) (bis_tuple : Binds K fdis_tuple ["thing", "least", "most"] []) {fis_integer : Addr} {fdis_integer : FuncData} (Gis_integer : FnG P w K mg base 1 fis_integer fdis_integer ["thing"] sp_is_integer) (gis_integer : mg "is_integer" = some (.ref fis_integer)) (kis_integer : PySem.W.keepIn K (.ref fis_integer) = true) (bis_integer : Binds K fdis_integer ["thing"] []) 
    (len : ∀ ws O S, sp_is_link ws O S → ws.length = 1) (rd : ∀ ws O S, sp_is_link ws O S → dis_link (outB S) (startD ["thing"] ws) O) : FnG P w K mg base 2 f fd ["thing"] sp_is_link := by
  refine FunG F scis_link len fun cdv A outer s H hr => ?_
  have sc := scis_link
  exact ⟨dis_link, (eb_one (es_ret (ed_and (ed_call Gis_tuple (hr.mono (by decide)) (by rfl) gis_tuple kis_tuple bis_tuple (ea_cons (dv 0) (ea_cons ed_int (ea_cons ed_int ea_nil)))) (ed_and (ed_call Gis_integer (hr.mono (by decide)) (by rfl) gis_integer kis_integer bis_integer (ea_cons (ed_ixT (dv 0) ed_int) ea_nil)) (ed_one (ed_call Gis_integer (hr.mono (by decide)) (by rfl) gis_integer kis_integer bis_integer (ea_cons (ed_ixT (dv 0) ed_int) ea_nil))))))), fun ws O S h => rd ws O S h⟩
abbrev scrossings : Stmt := topS 11
theorem sccrossings : FnScope ["links", "_", "other", "entry"] ["links"] (defScope scrossings) := ⟨rfl, rfl, rfl, by decide +kernel, rfl, by decide +kernel, by decide +kernel⟩
abbrev ncrossings : List Str := ["links", "_", "other", "entry"]
def dcrossings (K : PySem.W.Frag) : DTX := (dxSeq (dxIf (dOr (dNot (dTest (dIsT2 (dVar 0) "list" "tuple"))) (dNot (dTest (dCB rdAll (dCons (dLc (diQ 0) (dgName 3) dYes (dCall sp_is_link (dCons (dVar 3) dNil)) [3]) dNil))))) (dRaise (dM0 (He.ga K "BadLinks") (dCons (dC (.str "links are tuples of two integers")) dNil))) (dxOf dNext))
    (dxOf (dRet (dCall (sp_tr 43) (dCons (dLc (diL (dCB rdSortPrs (dCons (dVar 0) dNil))) (dgTup 2 (dgCons (dgName 1) (dgCons (dgName 2) dgNil))) dYes (dVar 2) [1, 2]) dNil)))))
theorem okcrossings {f : Addr} {fd : FuncData} (F : FnP K "crossings" scrossings f fd) (z_isinstance : mg "isinstance" = none) (z_all : mg "all" = none) (z_list : mg "list" = none) (z_tuple : mg "tuple" = none) (z_sorted : mg "sorted" = none)  (gBadLinks : mg "BadLinks" = some (.ref (He.ga K "BadLinks"))) (TBadLinks : XC0 K (He.ga K "BadLinks"))  {fturned_round : Addr} {fdturned_round : FuncData} (Gturned_round : FnG P w K mg base 45 fturned_round fdturned_round ["numbers"] (sp_tr 43)) (gturned_round : mg "turned_round" = some (.ref fturned_round)) (kturned_round : PySem.W.keepIn K (.ref fturned_round) = true) (bturned_round : Binds K fdturned_round ["numbers"] []) {fis_link : Addr} {fdis_link : FuncData} (Gis_link : FnG P w K mg base 2 fis_link fdis_link ["thing"] sp_is_link) (gis_link : mg "is_link" = some (.ref fis_link)) (kis_link : PySem.W.keepIn K (.ref fis_link) = true) (bis_link : Binds K fdis_link ["thing"] []) 
    (len : ∀ ws O S T, (spx_crossings K) ws O S T → ws.length = 1) (rd : ∀ ws O S T, (spx_crossings K) ws O S T → (dcrossings K) { nx := fun _ O' => S .non O', rt := S, ex := fun cls dk _ O' => T cls dk O' } (startD ["links", "_", "other", "entry"] ws) O) : FnX P w K mg base 50 f fd ["links"] (spx_crossings K) := by
  refine FunX F sccrossings len fun cdv A outer s H E hr => ?_
  have sc := sccrossings
  have tk : L2N.Takes (cxX P w K mg base ncrossings "crossings" (defScope scrossings) f cdv A outer s H E) (wxE E) := takesX
  exact ⟨(dcrossings K), (exb_cons (ex_if (ew_or (et_not (et_val (ed_isT2 (by rfl) z_isinstance (by rfl) z_list (by decide +kernel) (by rfl) z_tuple (by decide +kernel) (dv 0)))) (ew_or1 (et_not (et_val (ed_callB (cr_all rfl) src_all (by rfl) z_all (by decide +kernel) (ea_cons (ed_lc rfl sc.nd (own := [("entry", 3)]) (ei_or (ei_tup (dv 0)) (ei_lst (dv 0))) (blkOk_by (N := ["links", "_", "other", "entry"]) (sc := defScope scrossings) (by decide +kernel)) (fun _ _ _ _ _ => (egc_name (i := 3) (by decide) sc.nd rfl (by first | exact Or.inl rfl | exact Or.inr rfl))) (fun _ _ _ _ _ => ets_nil) (fun _ _ _ _ _ => (ed_call Gis_link (hr.mono (by decide)) (by rfl) gis_link kis_link bis_link (ea_cons (dv 3) ea_nil)))) ea_nil)))))).t (exb_one (ex_raise rfl tk (em_x0 TBadLinks gBadLinks (by rfl) (ea_cons ed_str ea_nil)))) (eb_x eb_nil))
      (eb_x (eb_one (es_ret (ed_call Gturned_round (hr.mono (by decide)) (by rfl) gturned_round kturned_round bturned_round (ea_cons (ed_lc rfl sc.nd (own := [("_", 1), ("other", 2)]) (ei_lst (ed_callB cr_sortPrs src_sortPrs (by rfl) z_sorted (by decide +kernel) (ea_cons (dv 0) ea_nil))) (blkOk_by (N := ["links", "_", "other", "entry"]) (sc := defScope scrossings) (by decide +kernel)) (fun _ _ _ _ _ => (egc_tup rfl (egsc_cons (egc_name (i := 1) (by decide) sc.nd rfl (by first | exact Or.inl rfl | exact Or.inr rfl)) (egsc_cons (egc_name (i := 2) (by decide) sc.nd rfl (by first | exact Or.inl rfl | exact Or.inr rfl)) egsc_nil)))) (fun _ _ _ _ _ => ets_nil) (fun _ _ _ _ _ => (dv 2))) ea_nil)))))), fun ws O S T h => rd ws O S T h⟩
abbrev s_law_feed : Stmt := topS 14
theorem sc_law_feed : FnScope ["_law_script", "_law_k", "_law_cell"] ["_law_script", "_law_k"] (defScope s_law_feed) := ⟨rfl, rfl, rfl, by decide +kernel, rfl, by decide +kernel, by decide +kernel⟩
abbrev n_law_feed : List Str := ["_law_script", "_law_k", "_law_cell"]
def d_law_feed : DTS := (dSeq (dSet 2 (dAdd (dMul (dC (.int 977)) (dVar 1)) (dCB rdSum (dCons (dSlL (dVar 0) dNoPart (dPart (dC (.int 1)))) dNil))))
    (dSeq (dIf (dTest (dLt (dVar 1) (dCB rdLen (dCons (dVar 0) dNil)))) (dSet 2 (dOp rdIxL (dVar 0) (dVar 1))) dNext)
    (dRet (dLst (dCons (dCB rdMax2 (dCons (dC (.int 0)) (dCons (dSub (dVar 2) (dPow (dC (.int 10)) (dC (.int 18)))) dNil))) (dCons (dMod (dCB rdInt1 (dCons (dAdd (dMul (dVar 2) (dC (.int 19))) (dMul (dC (.int 7)) (dVar 1))) dNil)) (dAdd (dPow (dC (.int 10)) (dC (.int 39))) (dC (.int 23)))) (dCons (dC (.int 0)) dNil)))))))
theorem ok_law_feed {f : Addr} {fd : FuncData} (F : FnP K "_law_feed" s_law_feed f fd) (z_sum : mg "sum" = none) (z_len : mg "len" = none) (z_max : mg "max" = none) (z_int : mg "int" = none)    
    (len : ∀ ws O S, sp_law_feed ws O S → ws.length = 2) (rd : ∀ ws O S, sp_law_feed ws O S → d_law_feed (outB S) (startD ["_law_script", "_law_k", "_law_cell"] ws) O) : FnG P w K mg base 1 f fd ["_law_script", "_law_k"] sp_law_feed := by
  refine FunG F sc_law_feed len fun cdv A outer s H hr => ?_
  have sc := sc_law_feed
  exact ⟨d_law_feed, (eb_cons (es_set (i := 2) sc.nd rfl (by first | exact Or.inl rfl | exact Or.inr rfl) (ed_add (ed_mul ed_int (dv 1)) (ed_callB (cr_sum rfl) src_sum (by rfl) z_sum (by decide +kernel) (ea_cons (ed_slL (dv 0) eo_none (eo_some ed_int)) ea_nil))))
      (eb_cons (es_if (et_lt (dv 1) (ed_callB call_len_seq src_len (by rfl) z_len PySem.boot_len (ea_cons (dv 0) ea_nil))) (eb_one (es_set (i := 2) sc.nd rfl (by first | exact Or.inl rfl | exact Or.inr rfl) (ed_ixL (dv 0) (dv 1)))) eb_nil)
      (eb_one (es_ret (ed_lst (ea_cons (ed_callB (call_max2 rfl) src_max2 (by rfl) z_max (by decide +kernel) (ea_cons ed_int (ea_cons (ed_sub (dv 2) (ed_pow ed_int ed_int)) ea_nil))) (ea_cons (ed_mod (ed_callTy call_int1 src_int1 (by rfl) z_int (by decide +kernel) (ea_cons (ed_add (ed_mul (dv 2) ed_int) (ed_mul ed_int (dv 1))) ea_nil)) (ed_add (ed_pow ed_int ed_int) ed_int)) (ea_cons ed_int ea_nil)))))))), fun ws O S h => rd ws O S h⟩
abbrev s_law_draw : Stmt := topS 15
theorem sc_law_draw : FnScope ["_law_feed_here", "_law_many", "_law_stir", "_law_rest", "_law_got"] ["_law_feed_here", "_law_many"] (defScope s_law_draw) := ⟨rfl, rfl, rfl, by decide +kernel, rfl, by decide +kernel, by decide +kernel⟩
theorem ok_law_draw {f : Addr} {fd : FuncData} (F : FnP K "_law_draw" s_law_draw f fd) (z_int : mg "int" = none)    
    (len : ∀ ws O S, sp_law_draw ws O S → ws.length = 2) (rd : ∀ ws O S, sp_law_draw ws O S → Dm.d_law_draw (outB S) (startD ["_law_feed_here", "_law_many", "_law_stir", "_law_rest", "_law_got"] ws) O) : FnG P w K mg base 1 f fd ["_law_feed_here", "_law_many"] sp_law_draw := by
  refine FunG F sc_law_draw len fun cdv A outer s H hr => ?_
  have sc := sc_law_draw
  exact ⟨Dm.d_law_draw, (eb_cons (es_if (et_gt (ed_ixL (dv 0) ed_int) ed_int) (eb_cons (es_set (i := 3) sc.nd rfl (by first | exact Or.inl rfl | exact Or.inr rfl) (ed_div (ed_ixL (dv 0) ed_int) (dv 1)))
      (eb_cons (es_set (i := 4) sc.nd rfl (by first | exact Or.inl rfl | exact Or.inr rfl) (ed_sub (ed_ixL (dv 0) ed_int) (ed_mul (dv 3) (dv 1))))
      (eb_cons (es_asg (dv 3) (eg_subL (dv 0) ed_int))
      (eb_one (es_ret (dv 4)))))) eb_nil)
      (eb_cons (es_asg (ed_add (ed_ixL (dv 0) ed_int) ed_int) (eg_subL (dv 0) ed_int))
      (eb_cons (es_set (i := 2) sc.nd rfl (by first | exact Or.inl rfl | exact Or.inr rfl) (ed_add (ed_ixL (dv 0) ed_int) (ed_mul ed_int (ed_ixL (dv 0) ed_int))))
      (eb_cons (es_set (i := 2) sc.nd rfl (by first | exact Or.inl rfl | exact Or.inr rfl) (ed_mod (ed_callTy call_int1 src_int1 (by rfl) z_int (by decide +kernel) (ea_cons (ed_add (ed_mul (ed_mul (dv 2) (dv 2)) (dv 2)) (ed_mul ed_int (ed_ixL (dv 0) ed_int))) ea_nil)) (ed_add (ed_pow ed_int ed_int) ed_int)))
      (eb_cons (es_set (i := 2) sc.nd rfl (by first | exact Or.inl rfl | exact Or.inr rfl) (ed_mod (ed_callTy call_int1 src_int1 (by rfl) z_int (by decide +kernel) (ea_cons (ed_add (ed_mul (dv 2) (dv 2)) ed_int) ea_nil)) (ed_add (ed_pow ed_int ed_int) ed_int)))
      (eb_one (es_ret (ed_mod (ed_callTy call_int1 src_int1 (by rfl) z_int (by decide +kernel) (ea_cons (ed_div (dv 2) (ed_pow ed_int ed_int)) ea_nil)) (dv 1))))))))), fun ws O S h => rd ws O S h⟩
abbrev s_law_one : Stmt := topS 16
theorem sc_law_one : FnScope ["_law_feed_here", "_law_things"] ["_law_feed_here", "_law_things"] (defScope s_law_one) := ⟨rfl, rfl, rfl, by decide +kernel, rfl, by decide +kernel, by decide +kernel⟩
theorem ok_law_one {f : Addr} {fd : FuncData} (F : FnP K "_law_one" s_law_one f fd) (z_len : mg "len" = none)    {f_law_draw : Addr} {fd_law_draw : FuncData} (G_law_draw : FnG P w K mg base 1 f_law_draw fd_law_draw ["_law_feed_here", "_law_many"] sp_law_draw) (g_law_draw : mg "_law_draw" = some (.ref f_law_draw)) (k_law_draw : PySem.W.keepIn K (.ref f_law_draw) = true) (b_law_draw : Binds K fd_law_draw ["_law_feed_here", "_law_many"] []) 
    (len : ∀ ws O S, sp_law_oneL ws O S → ws.length = 2) (rd : ∀ ws O S, sp_law_oneL ws O S → Dm.d_law_one (outB S) (startD ["_law_feed_here", "_law_things"] ws) O) : FnG P w K mg base 2 f fd ["_law_feed_here", "_law_things"] sp_law_oneL := by
  refine FunG F sc_law_one len fun cdv A outer s H hr => ?_
  have sc := sc_law_one
  exact ⟨Dm.d_law_one, (eb_one (es_ret (ed_ixL (dv 1) (ed_call G_law_draw (hr.mono (by decide)) (by rfl) g_law_draw k_law_draw b_law_draw (ea_cons (dv 0) (ea_cons (ed_callB call_len_seq src_len (by rfl) z_len PySem.boot_len (ea_cons (dv 1) ea_nil)) ea_nil)))))), fun ws O S h => rd ws O S h⟩
abbrev s_law_mixed : Stmt := topS 17
theorem sc_law_mixed : FnScope ["_law_feed_here", "_law_things", "_law_turn", "_law_pool", "_law_got"] ["_law_feed_here", "_law_things"] (defScope s_law_mixed) := ⟨rfl, rfl, rfl, by decide +kernel, rfl, by decide +kernel, by decide +kernel⟩
abbrev n_law_mixed : List Str := ["_law_feed_here", "_law_things", "_law_turn", "_law_pool", "_law_got"]
def d_law_mixed : DTS := (dSeq (dPar 3 4 (dCons (dCB rdListOf (dCons (dVar 1) dNil)) (dCons (dLst dNil) dNil)))
    (dSeq (dFor (diR1 (dCons (dCB rdLen (dCons (dVar 1) dNil)) dNil)) (dgName 2) (dDrop (dBM okL rdAppend (dVar 4) (dCons (dBM okL rdPopAt (dVar 3) (dCons (dCall sp_law_draw (dCons (dVar 0) (dCons (dCB rdLen (dCons (dVar 3) dNil)) dNil))) dNil)) dNil))))
    (dRet (dVar 4))))
theorem ok_law_mixed {f : Addr} {fd : FuncData} (F : FnP K "_law_mixed" s_law_mixed f fd) (z_range : mg "range" = none) (z_list : mg "list" = none) (z_len : mg "len" = none)    {f_law_draw : Addr} {fd_law_draw : FuncData} (G_law_draw : FnG P w K mg base 1 f_law_draw fd_law_draw ["_law_feed_here", "_law_many"] sp_law_draw) (g_law_draw : mg "_law_draw" = some (.ref f_law_draw)) (k_law_draw : PySem.W.keepIn K (.ref f_law_draw) = true) (b_law_draw : Binds K fd_law_draw ["_law_feed_here", "_law_many"] []) 
    (len : ∀ ws O S, sp_mixed ws O S → ws.length = 2) (rd : ∀ ws O S, sp_mixed ws O S → d_law_mixed (outB S) (startD ["_law_feed_here", "_law_things", "_law_turn", "_law_pool", "_law_got"] ws) O) : FnG P w K mg base 2 f fd ["_law_feed_here", "_law_things"] sp_mixed := by
  refine FunG F sc_law_mixed len fun cdv A outer s H hr => ?_
  have sc := sc_law_mixed
  exact ⟨d_law_mixed, (eb_cons (es_par (i := 3) (j := 4) rfl sc.nd rfl rfl (by decide) rfl rfl (ea_cons (ed_callTy call_list_of src_listOf (by rfl) z_list (by decide +kernel) (ea_cons (dv 1) ea_nil)) (ea_cons (ed_lst ea_nil) ea_nil)))
      (eb_cons (es_for PassesOwn.never rfl (ei_range1 (by rfl) z_range (ea_cons (ed_callB call_len_seq src_len (by rfl) z_len PySem.boot_len (ea_cons (dv 1) ea_nil)) ea_nil)) (eg_name (i := 2) sc.nd rfl (by first | exact Or.inl rfl | exact Or.inr rfl)) (eb_one (es_expr (ed_bm PySem.F.plainAttrs_list PySem.F.slot_list_append PySem.F.type_list_append mt_append sty_L srm_append (dv 4) (ea_cons (ed_bm PySem.F.plainAttrs_list PySem.F.slot_list_pop PySem.F.type_list_pop mt_popAt sty_L srm_popAt (dv 3) (ea_cons (ed_call G_law_draw (hr.mono (by decide)) (by rfl) g_law_draw k_law_draw b_law_draw (ea_cons (dv 0) (ea_cons (ed_callB call_len_seq src_len (by rfl) z_len PySem.boot_len (ea_cons (dv 3) ea_nil)) ea_nil))) ea_nil)) ea_nil)))))
      (eb_one (es_ret (dv 4))))), fun ws O S h => rd ws O S h⟩
abbrev s_law_is : Stmt := topS 18
theorem sc_law_is : FnScope ["_law_actual", "_law_due"] ["_law_actual", "_law_due"] (defScope s_law_is) := ⟨rfl, rfl, rfl, by decide +kernel, rfl, by decide +kernel, by decide +kernel⟩
abbrev n_law_is : List Str := ["_law_actual", "_law_due"]
def d_law_is : DTS := (dRet (dAndV (dCB rdIsi (dCons (dVar 0) (dCons (dC (.ty "int")) dNil))) (dAndV (dNotV (dCB rdIsi (dCons (dVar 0) (dCons (dC (.ty "bool")) dNil)))) (dOp rdEq (dVar 0) (dVar 1)))))
theorem ok_law_is {f : Addr} {fd : FuncData} (F : FnP K "_law_is" s_law_is f fd) (z_isinstance : mg "isinstance" = none) (z_int : mg "int" = none) (z_bool : mg "bool" = none)    
    (len : ∀ ws O S, sp_is ws O S → ws.length = 2) (rd : ∀ ws O S, sp_is ws O S → d_law_is (outB S) (startD ["_law_actual", "_law_due"] ws) O) : FnG P w K mg base 1 f fd ["_law_actual", "_law_due"] sp_is := by
  refine FunG F sc_law_is len fun cdv A outer s H hr => ?_
  have sc := sc_law_is
  exact ⟨d_law_is, (eb_one (es_ret (ed_and (ed_callB call_isi src_isi (by rfl) z_isinstance (by decide +kernel) (ea_cons (dv 0) (ea_cons (ed_bltn (by rfl) z_int (by decide +kernel)) ea_nil))) (ed_and (ed_not (ed_callB call_isi src_isi (by rfl) z_isinstance (by decide +kernel) (ea_cons (dv 0) (ea_cons (ed_bltn (by rfl) z_bool (by decide +kernel)) ea_nil)))) (ed_one (ed_eq (dv 0) (dv 1))))))), fun ws O S h => rd ws O S h⟩
abbrev s_law_crossed : Stmt := topS 19
theorem sc_law_crossed : FnScope ["_law_rows", "_law_one_here", "_law_cross", "_law_apart", "_law_two", "_law_first", "_law_second"] ["_law_rows"] (defScope s_law_crossed) := ⟨rfl, rfl, rfl, by decide +kernel, rfl, by decide +kernel, by decide +kernel⟩
abbrev n_law_crossed : List Str := ["_law_rows", "_law_one_here", "_law_cross", "_law_apart", "_law_two", "_law_first", "_law_second"]
def d_law_crossed : DTS := (dSeq (dAsg (dTup (dCons (dC (.int 0)) (dCons (dC (.int 0)) dNil))) (dgTup 2 (dgCons (dgName 2) (dgCons (dgName 3) dgNil))))
    (dSeq (dFor (diR1 (dCons (dCB rdLen (dCons (dVar 0) dNil)) dNil)) (dgName 1) (dFor (diR1 (dCons (dVar 1) dNil)) (dgName 4) (dSeq (dPar 5 6 (dCons (dSub (dOp rdIxT (dOp rdIxL (dVar 0) (dVar 1)) (dC (.int 0))) (dOp rdIxT (dOp rdIxL (dVar 0) (dVar 4)) (dC (.int 0)))) (dCons (dSub (dOp rdIxT (dOp rdIxL (dVar 0) (dVar 1)) (dC (.int 1))) (dOp rdIxT (dOp rdIxL (dVar 0) (dVar 4)) (dC (.int 1)))) dNil)))
    (dIf (dAnd (dTest (dOp rdNe (dVar 5) (dC (.int 0)))) (dTest (dOp rdNe (dVar 6) (dC (.int 0))))) (dSeq (dSet 3 (dAdd (dVar 3) (dC (.int 1))))
    (dSet 2 (dAdd (dVar 2) (dCB rdInt1 (dCons (dOp rdNe (dGt (dVar 5) (dC (.int 0))) (dGt (dVar 6) (dC (.int 0)))) dNil))))) dNext))))
    (dRet (dTup (dCons (dVar 2) (dCons (dVar 3) dNil))))))
theorem ok_law_crossed {f : Addr} {fd : FuncData} (F : FnP K "_law_crossed" s_law_crossed f fd) (z_range : mg "range" = none) (z_len : mg "len" = none) (z_int : mg "int" = none)    
    (len : ∀ ws O S, sp_crossed ws O S → ws.length = 1) (rd : ∀ ws O S, sp_crossed ws O S → d_law_crossed (outB S) (startD ["_law_rows", "_law_one_here", "_law_cross", "_law_apart", "_law_two", "_law_first", "_law_second"] ws) O) : FnG P w K mg base 1 f fd ["_law_rows"] sp_crossed := by
  refine FunG F sc_law_crossed len fun cdv A outer s H hr => ?_
  have sc := sc_law_crossed
  exact ⟨d_law_crossed, (eb_cons (es_asg (ed_tup (ea_cons ed_int (ea_cons ed_int ea_nil))) (eg_tup rfl (egs_cons (eg_name (i := 2) sc.nd rfl (by first | exact Or.inl rfl | exact Or.inr rfl)) (egs_cons (eg_name (i := 3) sc.nd rfl (by first | exact Or.inl rfl | exact Or.inr rfl)) egs_nil))))
      (eb_cons (es_for PassesOwn.never rfl (ei_range1 (by rfl) z_range (ea_cons (ed_callB call_len_seq src_len (by rfl) z_len PySem.boot_len (ea_cons (dv 0) ea_nil)) ea_nil)) (eg_name (i := 1) sc.nd rfl (by first | exact Or.inl rfl | exact Or.inr rfl)) (eb_one (es_for PassesOwn.never rfl (ei_range1 (by rfl) z_range (ea_cons (dv 1) ea_nil)) (eg_name (i := 4) sc.nd rfl (by first | exact Or.inl rfl | exact Or.inr rfl)) (eb_cons (es_par (i := 5) (j := 6) rfl sc.nd rfl rfl (by decide) rfl rfl (ea_cons (ed_sub (ed_ixT (ed_ixL (dv 0) (dv 1)) ed_int) (ed_ixT (ed_ixL (dv 0) (dv 4)) ed_int)) (ea_cons (ed_sub (ed_ixT (ed_ixL (dv 0) (dv 1)) ed_int) (ed_ixT (ed_ixL (dv 0) (dv 4)) ed_int)) ea_nil)))
      (eb_one (es_if (ew_and (et_ne (dv 5) ed_int) (ew_and1 (et_ne (dv 6) ed_int))).t (eb_cons (es_set (i := 3) sc.nd rfl (by first | exact Or.inl rfl | exact Or.inr rfl) (ed_add (dv 3) ed_int))
      (eb_one (es_set (i := 2) sc.nd rfl (by first | exact Or.inl rfl | exact Or.inr rfl) (ed_add (dv 2) (ed_callTy call_int1 src_int1 (by rfl) z_int (by decide +kernel) (ea_cons (ed_ne (ed_gt (dv 5) ed_int) (ed_gt (dv 6) ed_int)) ea_nil)))))) eb_nil))))))
      (eb_one (es_ret (ed_tup (ea_cons (dv 2) (ea_cons (dv 3) ea_nil))))))), fun ws O S h => rd ws O S h⟩
abbrev s_law_refused : Stmt := topS 20
theorem sc_law_refused : FnScope ["_law_thing", "_law_found", "error"] ["_law_thing"] (defScope s_law_refused) := ⟨rfl, rfl, rfl, by decide +kernel, rfl, by decide +kernel, by decide +kernel⟩
abbrev n_law_refused : List Str := ["_law_thing", "_law_found", "error"]
def d_law_refused (K : PySem.W.Frag) : DTS := (dSeq (dSet 1 (dC (.str "other")))
    (dSeq (dTryAs K (dxSet 1 (dCallX (spx_crossings K) (dCons (dVar 0) dNil))) (.ref (He.ga K "BadLinks")) 2 fun a cls d => (dSet 1 (dIfE (dAnd (dTest (dCB (rdIsC K a cls d) (dCons (dVar 2) (dCons (dC (.ref (He.ga K "TongueError"))) dNil)))) (dNot (dTest (dCB (rdIsC K a cls d) (dCons (dVar 2) (dCons (dC (.ref (He.ga K "TooMany"))) dNil)))))) (dC (.str "bad")) (dC (.str "another")))))
    (dRet (dOp rdEq (dVar 1) (dC (.str "bad"))))))
theorem ok_law_refused {f : Addr} {fd : FuncData} (F : FnP K "_law_refused" s_law_refused f fd) (z_isinstance : mg "isinstance" = none)  (gBadLinks : mg "BadLinks" = some (.ref (He.ga K "BadLinks"))) (TBadLinks : XC0 K (He.ga K "BadLinks")) (gTongueError : mg "TongueError" = some (.ref (He.ga K "TongueError"))) (TTongueError : XC0 K (He.ga K "TongueError")) (gTooMany : mg "TooMany" = some (.ref (He.ga K "TooMany"))) (TTooMany : XC0 K (He.ga K "TooMany"))  {fcrossings : Addr} {fdcrossings : FuncData} (GXcrossings : FnX P w K mg base 50 fcrossings fdcrossings ["links"] (spx_crossings K)) (gcrossings : mg "crossings" = some (.ref fcrossings)) (kcrossings : PySem.W.keepIn K (.ref fcrossings) = true) (bcrossings : Binds K fdcrossings ["links"] []) 
    (len : ∀ ws O S, sp_refused ws O S → ws.length = 1) (rd : ∀ ws O S, sp_refused ws O S → (d_law_refused K) (outB S) (startD ["_law_thing", "_law_found", "error"] ws) O) : FnG P w K mg base 51 f fd ["_law_thing"] sp_refused := by
  refine FunG F sc_law_refused len fun cdv A outer s H hr => ?_
  have sc := sc_law_refused
  exact ⟨(d_law_refused K), (eb_cons (es_set (i := 1) sc.nd rfl (by first | exact Or.inl rfl | exact Or.inr rfl) ed_str)
      (eb_cons (es_tryAs (i := 2) (c := .ref (He.ga K "BadLinks")) rfl rfl sc.nd rfl rfl ⟨by rfl, by decide, .inl gBadLinks⟩ (fun W pn xe tk po => (exb_one (ex_set (i := 1) sc.nd rfl (by first | exact Or.inl rfl | exact Or.inr rfl) (ee_call GXcrossings (hr.mono (by decide)) tk (by rfl) gcrossings kcrossings bcrossings (ea_cons (dv 0) ea_nil))))) (fun a oe cls d pn hz hf => (eb_one (es_set (i := 1) sc.nd rfl (by first | exact Or.inl rfl | exact Or.inr rfl) (ed_if (ew_and (et_val (ed_callB (call_isD hz hf) src_isD (by rfl) z_isinstance (by decide +kernel) (ea_cons (dv 2) (ea_cons (ed_gref (by rfl) gTongueError) ea_nil)))) (ew_and1 (et_not (et_val (ed_callB (call_isD hz hf) src_isD (by rfl) z_isinstance (by decide +kernel) (ea_cons (dv 2) (ea_cons (ed_gref (by rfl) gTooMany) ea_nil))))))).t ed_str ed_str)))))
      (eb_one (es_ret (ed_eq (dv 1) ed_str))))), fun ws O S h => rd ws O S h⟩
abbrev s_law_right : Stmt := topS 21
theorem sc_law_right : FnScope ["_law_feed_here", "_law_way", "_law_turn", "_law_rows", "_law_moved", "_law_bad", "_law_place", "_law_most", "_law_kept", "_law_cross", "_law_apart", "_law_one_here", "_law_other"] ["_law_feed_here"] (defScope s_law_right) := ⟨rfl, rfl, rfl, by decide +kernel, rfl, by decide +kernel, by decide +kernel⟩
abbrev n_law_right : List Str := ["_law_feed_here", "_law_way", "_law_turn", "_law_rows", "_law_moved", "_law_bad", "_law_place", "_law_most", "_law_kept", "_law_cross", "_law_apart", "_law_one_here", "_law_other"]
def d_law_right : DTS := (dSeq (dSet 1 (dCall sp_law_draw (dCons (dVar 0) (dCons (dC (.int 3)) dNil))))
    (dSeq (dPar 3 7 (dCons (dLst dNil) (dCons (dOp rdIxL (dLst (dCons (dC (.int 4)) (dCons (dC (.int 12)) (dCons (dPow (dC (.int 10)) (dC (.int 59))) dNil)))) (dVar 1)) dNil)))
    (dSeq (dFor (diR1 (dCons (dCall sp_law_draw (dCons (dVar 0) (dCons (dC (.int 21)) dNil))) dNil)) (dgName 2) (dSeq (dDrop (dBM okL rdAppend (dVar 3) (dCons (dTup (dCons (dSub (dCall sp_law_draw (dCons (dVar 0) (dCons (dVar 7) dNil))) (dDiv (dVar 7) (dC (.int 3)))) (dCons (dSub (dCall sp_law_draw (dCons (dVar 0) (dCons (dVar 7) dNil))) (dDiv (dVar 7) (dC (.int 3)))) dNil))) dNil)))
    (dIf (dTest (dOp rdEq (dCall sp_law_draw (dCons (dVar 0) (dCons (dC (.int 5)) dNil))) (dC (.int 0)))) (dDrop (dBM okL rdAppend (dVar 3) (dCons (dCall sp_law_oneL (dCons (dVar 0) (dCons (dVar 3) dNil))) dNil))) dNext)))
    (dSeq (dSet 3 (dSlL (dVar 3) dNoPart (dPart (dC (.int 20)))))
    (dSeq (dAsg (dTup (dCons (dCall sp_crossed (dCons (dVar 3) dNil)) (dCons (dCB rdListOf (dCons (dVar 3) dNil)) dNil))) (dgTup 2 (dgCons (dgTup 2 (dgCons (dgName 9) (dgCons (dgName 10) dgNil))) (dgCons (dgName 8) dgNil))))
    (dSeq (dSet 4 (dCall sp_law_draw (dCons (dVar 0) (dCons (dPow (dC (.int 10)) (dC (.int 20))) dNil))))
    (dSeq (dIf (dOr (dNot (dTest (dCall sp_is (dCons (dCall sp_crossings (dCons (dVar 3) dNil)) (dCons (dVar 9) dNil))))) (dOr (dNot (dTest (dCall sp_is (dCons (dCall sp_crossings (dCons (dCB rdTupOf (dCons (dVar 3) dNil)) dNil)) (dCons (dVar 9) dNil))))) (dNot (dTest (dCall sp_is (dCons (dCallK0 sp_crossings (dCons (dCall sp_mixed (dCons (dVar 0) (dCons (dVar 3) dNil))) dNil)) (dCons (dVar 9) dNil))))))) (dRet (dC (.bl false))) dNext)
    (dSeq (dIf (dOr (dTest (dOp rdNeD (dVar 3) (dVar 8))) (dOr (dTest (dOp rdNe (dCall sp_crossings (dCons (dLc (diL (dVar 3)) (dgTup 2 (dgCons (dgName 11) (dgCons (dgName 12) dgNil))) dYes (dTup (dCons (dVar 12) (dCons (dVar 11) dNil))) [11, 12]) dNil)) (dVar 9))) (dTest (dOp rdNe (dCall sp_crossings (dCons (dLc (diL (dVar 3)) (dgTup 2 (dgCons (dgName 11) (dgCons (dgName 12) dgNil))) dYes (dTup (dCons (dAdd (dVar 11) (dVar 4)) (dCons (dSub (dVar 12) (dVar 4)) dNil))) [11, 12]) dNil)) (dVar 9))))) (dRet (dC (.bl false))) dNext)
    (dSeq (dIf (dNot (dTest (dCall sp_is (dCons (dCall sp_crossings (dCons (dLc (diL (dVar 3)) (dgTup 2 (dgCons (dgName 11) (dgCons (dgName 12) dgNil))) dYes (dTup (dCons (dVar 11) (dCons (dSub (dC (.int 0)) (dVar 12)) dNil))) [11, 12]) dNil)) (dCons (dSub (dVar 10) (dVar 9)) dNil))))) (dRet (dC (.bl false))) dNext)
    (dSeq (dSet 5 (dCall sp_law_oneL (dCons (dVar 0) (dCons (dLst (dCons (dTup (dCons (dC (.int 1)) dNil)) (dCons (dTup (dCons (dC (.int 1)) (dCons (dC (.int 2)) (dCons (dC (.int 3)) dNil)))) (dCons (dLst (dCons (dC (.int 1)) (dCons (dC (.int 2)) dNil))) (dCons (dTup (dCons (dC (.bl true)) (dCons (dC (.int 1)) dNil))) (dCons (dTup (dCons (dC (.int 1)) (dCons (dC .non) dNil))) (dCons (dTup (dCons (dC (.str "0")) (dCons (dC (.int 1)) dNil))) (dCons (dC (.int 5)) (dCons (dC .non) (dCons (dTup dNil) (dCons (dC (.str "ab")) (dCons (dTup (dCons (dC (.int 1)) (dCons (dTup (dCons (dC (.int 2)) dNil)) dNil))) dNil)))))))))))) dNil))))
    (dSeq (dSet 6 (dCall sp_law_draw (dCons (dVar 0) (dCons (dAdd (dCB rdLen (dCons (dVar 3) dNil)) (dC (.int 1))) dNil))))
    (dSeq (dIf (dOr (dNot (dTest (dCall sp_refused (dCons (dCatL (dCatL (dSlL (dVar 3) dNoPart (dPart (dVar 6))) (dLst (dCons (dVar 5) dNil))) (dSlL (dVar 3) (dPart (dVar 6)) dNoPart)) dNil)))) (dNot (dTest (dCall sp_refused (dCons (dCB rdTupOf (dCons (dCatL (dCatL (dSlL (dVar 3) dNoPart (dPart (dVar 6))) (dLst (dCons (dVar 5) dNil))) (dSlL (dVar 3) (dPart (dVar 6)) dNoPart)) dNil)) dNil))))) (dRet (dC (.bl false))) dNext)
    (dRet (dCall sp_refused (dCons (dCall sp_law_oneL (dCons (dVar 0) (dCons (dLst (dCons (dC .non) (dCons (dC (.int 0)) (dCons (dC (.str "")) (dCons (dC (.str "links")) (dCons (dCB rdDict1 (dCons (dLst (dCons (dTup (dCons (dC (.int 0)) (dCons (dC (.int 1)) dNil))) dNil)) dNil)) (dCons (dC (.bl true)) (dCons (dTup (dCons (dC (.int 1)) (dCons (dC (.int 2)) dNil))) (dCons (dLst (dCons (dC (.int 1)) dNil)) (dCons (dTup (dCons (dTup (dCons (dC (.int 1)) (dCons (dC (.int 2)) dNil))) (dCons (dC (.int 3)) dNil))) dNil)))))))))) dNil))) dNil)))))))))))))))
theorem ok_law_right {f : Addr} {fd : FuncData} (F : FnP K "_law_right" s_law_right f fd) (z_range : mg "range" = none) (z_list : mg "list" = none) (z_len : mg "len" = none) (z_tuple : mg "tuple" = none) (z_dict : mg "dict" = none)    {f_law_draw : Addr} {fd_law_draw : FuncData} (G_law_draw : FnG P w K mg base 1 f_law_draw fd_law_draw ["_law_feed_here", "_law_many"] sp_law_draw) (g_law_draw : mg "_law_draw" = some (.ref f_law_draw)) (k_law_draw : PySem.W.keepIn K (.ref f_law_draw) = true) (b_law_draw : Binds K fd_law_draw ["_law_feed_here", "_law_many"] []) {f_law_one : Addr} {fd_law_one : FuncData} (G_law_one : FnG P w K mg base 2 f_law_one fd_law_one ["_law_feed_here", "_law_things"] sp_law_oneL) (g_law_one : mg "_law_one" = some (.ref f_law_one)) (k_law_one : PySem.W.keepIn K (.ref f_law_one) = true) (b_law_one : Binds K fd_law_one ["_law_feed_here", "_law_things"] []) {f_law_refused : Addr} {fd_law_refused : FuncData} (G_law_refused : FnG P w K mg base 51 f_law_refused fd_law_refused ["_law_thing"] sp_refused) (g_law_refused : mg "_law_refused" = some (.ref f_law_refused)) (k_law_refused : PySem.W.keepIn K (.ref f_law_refused) = true) (b_law_refused : Binds K fd_law_refused ["_law_thing"] []) {f_law_crossed : Addr} {fd_law_crossed : FuncData} (G_law_crossed : FnG P w K mg base 1 f_law_crossed fd_law_crossed ["_law_rows"] sp_crossed) (g_law_crossed : mg "_law_crossed" = some (.ref f_law_crossed)) (k_law_crossed : PySem.W.keepIn K (.ref f_law_crossed) = true) (b_law_crossed : Binds K fd_law_crossed ["_law_rows"] []) {f_law_is : Addr} {fd_law_is : FuncData} (G_law_is : FnG P w K mg base 1 f_law_is fd_law_is ["_law_actual", "_law_due"] sp_is) (g_law_is : mg "_law_is" = some (.ref f_law_is)) (k_law_is : PySem.W.keepIn K (.ref f_law_is) = true) (b_law_is : Binds K fd_law_is ["_law_actual", "_law_due"] []) {fcrossings : Addr} {fdcrossings : FuncData} (Gcrossings : FnG P w K mg base 50 fcrossings fdcrossings ["links"] sp_crossings) (gcrossings : mg "crossings" = some (.ref fcrossings)) (kcrossings : PySem.W.keepIn K (.ref fcrossings) = true) (bcrossings : Binds K fdcrossings ["links"] []) {f_law_mixed : Addr} {fd_law_mixed : FuncData} (G_law_mixed : FnG P w K mg base 2 f_law_mixed fd_law_mixed ["_law_feed_here", "_law_things"] sp_mixed) (g_law_mixed : mg "_law_mixed" = some (.ref f_law_mixed)) (k_law_mixed : PySem.W.keepIn K (.ref f_law_mixed) = true) (b_law_mixed : Binds K fd_law_mixed ["_law_feed_here", "_law_things"] []) (kbcrossings_links : KId K fdcrossings ["links"])
    (len : ∀ ws O S, sp_right ws O S → ws.length = 1) (rd : ∀ ws O S, sp_right ws O S → d_law_right (outB S) (startD ["_law_feed_here", "_law_way", "_law_turn", "_law_rows", "_law_moved", "_law_bad", "_law_place", "_law_most", "_law_kept", "_law_cross", "_law_apart", "_law_one_here", "_law_other"] ws) O) : FnG P w K mg base 52 f fd ["_law_feed_here"] sp_right := by
  refine FunG F sc_law_right len fun cdv A outer s H hr => ?_
  have sc := sc_law_right
  exact ⟨d_law_right, (eb_cons (es_set (i := 1) sc.nd rfl (by first | exact Or.inl rfl | exact Or.inr rfl) (ed_call G_law_draw (hr.mono (by decide)) (by rfl) g_law_draw k_law_draw b_law_draw (ea_cons (dv 0) (ea_cons ed_int ea_nil))))
      (eb_cons (es_par (i := 3) (j := 7) rfl sc.nd rfl rfl (by decide) rfl rfl (ea_cons (ed_lst ea_nil) (ea_cons (ed_ixL (ed_lst (ea_cons ed_int (ea_cons ed_int (ea_cons (ed_pow ed_int ed_int) ea_nil)))) (dv 1)) ea_nil)))
      (eb_cons (es_for PassesOwn.never rfl (ei_range1 (by rfl) z_range (ea_cons (ed_call G_law_draw (hr.mono (by decide)) (by rfl) g_law_draw k_law_draw b_law_draw (ea_cons (dv 0) (ea_cons ed_int ea_nil))) ea_nil)) (eg_name (i := 2) sc.nd rfl (by first | exact Or.inl rfl | exact Or.inr rfl)) (eb_cons (es_expr (ed_bm PySem.F.plainAttrs_list PySem.F.slot_list_append PySem.F.type_list_append mt_append sty_L srm_append (dv 3) (ea_cons (ed_tup (ea_cons (ed_sub (ed_call G_law_draw (hr.mono (by decide)) (by rfl) g_law_draw k_law_draw b_law_draw (ea_cons (dv 0) (ea_cons (dv 7) ea_nil))) (ed_div (dv 7) ed_int)) (ea_cons (ed_sub (ed_call G_law_draw (hr.mono (by decide)) (by rfl) g_law_draw k_law_draw b_law_draw (ea_cons (dv 0) (ea_cons (dv 7) ea_nil))) (ed_div (dv 7) ed_int)) ea_nil))) ea_nil)))
      (eb_one (es_if (et_eq (ed_call G_law_draw (hr.mono (by decide)) (by rfl) g_law_draw k_law_draw b_law_draw (ea_cons (dv 0) (ea_cons ed_int ea_nil))) ed_int) (eb_one (es_expr (ed_bm PySem.F.plainAttrs_list PySem.F.slot_list_append PySem.F.type_list_append mt_append sty_L srm_append (dv 3) (ea_cons (ed_call G_law_one (hr.mono (by decide)) (by rfl) g_law_one k_law_one b_law_one (ea_cons (dv 0) (ea_cons (dv 3) ea_nil))) ea_nil)))) eb_nil))))
      (eb_cons (es_set (i := 3) sc.nd rfl (by first | exact Or.inl rfl | exact Or.inr rfl) (ed_slL (dv 3) eo_none (eo_some ed_int)))
      (eb_cons (es_asg (ed_tup (ea_cons (ed_call G_law_crossed (hr.mono (by decide)) (by rfl) g_law_crossed k_law_crossed b_law_crossed (ea_cons (dv 3) ea_nil)) (ea_cons (ed_callTy call_list_of src_listOf (by rfl) z_list (by decide +kernel) (ea_cons (dv 3) ea_nil)) ea_nil))) (eg_tup rfl (egs_cons (eg_tup rfl (egs_cons (eg_name (i := 9) sc.nd rfl (by first | exact Or.inl rfl | exact Or.inr rfl)) (egs_cons (eg_name (i := 10) sc.nd rfl (by first | exact Or.inl rfl | exact Or.inr rfl)) egs_nil))) (egs_cons (eg_name (i := 8) sc.nd rfl (by first | exact Or.inl rfl | exact Or.inr rfl)) egs_nil))))
      (eb_cons (es_set (i := 4) sc.nd rfl (by first | exact Or.inl rfl | exact Or.inr rfl) (ed_call G_law_draw (hr.mono (by decide)) (by rfl) g_law_draw k_law_draw b_law_draw (ea_cons (dv 0) (ea_cons (ed_pow ed_int ed_int) ea_nil))))
      (eb_cons (es_if (ew_or (et_not (et_val (ed_call G_law_is (hr.mono (by decide)) (by rfl) g_law_is k_law_is b_law_is (ea_cons (ed_call Gcrossings (hr.mono (by decide)) (by rfl) gcrossings kcrossings bcrossings (ea_cons (dv 3) ea_nil)) (ea_cons (dv 9) ea_nil))))) (ew_or (et_not (et_val (ed_call G_law_is (hr.mono (by decide)) (by rfl) g_law_is k_law_is b_law_is (ea_cons (ed_call Gcrossings (hr.mono (by decide)) (by rfl) gcrossings kcrossings bcrossings (ea_cons (ed_callTy call_tuple_of src_tupOf (by rfl) z_tuple (by decide +kernel) (ea_cons (dv 3) ea_nil)) ea_nil)) (ea_cons (dv 9) ea_nil))))) (ew_or1 (et_not (et_val (ed_call G_law_is (hr.mono (by decide)) (by rfl) g_law_is k_law_is b_law_is (ea_cons (ed_callK0 Gcrossings (hr.mono (by decide)) (by rfl) gcrossings kcrossings kbcrossings_links (ek_cons (ed_call G_law_mixed (hr.mono (by decide)) (by rfl) g_law_mixed k_law_mixed b_law_mixed (ea_cons (dv 0) (ea_cons (dv 3) ea_nil))) ek_nil)) (ea_cons (dv 9) ea_nil)))))))).t (eb_one (es_ret ed_bl)) eb_nil)
      (eb_cons (es_if (ew_or (et_neD (hu64 hr) (dv 3) (dv 8)) (ew_or (et_ne (ed_call Gcrossings (hr.mono (by decide)) (by rfl) gcrossings kcrossings bcrossings (ea_cons (ed_lc rfl sc.nd (own := [("_law_one_here", 11), ("_law_other", 12)]) (ei_lst (dv 3)) (blkOk_by (N := ["_law_feed_here", "_law_way", "_law_turn", "_law_rows", "_law_moved", "_law_bad", "_law_place", "_law_most", "_law_kept", "_law_cross", "_law_apart", "_law_one_here", "_law_other"]) (sc := defScope s_law_right) (by decide +kernel)) (fun _ _ _ _ _ => (egc_tup rfl (egsc_cons (egc_name (i := 11) (by decide) sc.nd rfl (by first | exact Or.inl rfl | exact Or.inr rfl)) (egsc_cons (egc_name (i := 12) (by decide) sc.nd rfl (by first | exact Or.inl rfl | exact Or.inr rfl)) egsc_nil)))) (fun _ _ _ _ _ => ets_nil) (fun _ _ _ _ _ => (ed_tup (ea_cons (dv 12) (ea_cons (dv 11) ea_nil))))) ea_nil)) (dv 9)) (ew_or1 (et_ne (ed_call Gcrossings (hr.mono (by decide)) (by rfl) gcrossings kcrossings bcrossings (ea_cons (ed_lc rfl sc.nd (own := [("_law_one_here", 11), ("_law_other", 12)]) (ei_lst (dv 3)) (blkOk_by (N := ["_law_feed_here", "_law_way", "_law_turn", "_law_rows", "_law_moved", "_law_bad", "_law_place", "_law_most", "_law_kept", "_law_cross", "_law_apart", "_law_one_here", "_law_other"]) (sc := defScope s_law_right) (by decide +kernel)) (fun _ _ _ _ _ => (egc_tup rfl (egsc_cons (egc_name (i := 11) (by decide) sc.nd rfl (by first | exact Or.inl rfl | exact Or.inr rfl)) (egsc_cons (egc_name (i := 12) (by decide) sc.nd rfl (by first | exact Or.inl rfl | exact Or.inr rfl)) egsc_nil)))) (fun _ _ _ _ _ => ets_nil) (fun _ _ _ _ _ => (ed_tup (ea_cons (ed_add (dv 11) (dv 4)) (ea_cons (ed_sub (dv 12) (dv 4)) ea_nil))))) ea_nil)) (dv 9))))).t (eb_one (es_ret ed_bl)) eb_nil)
      (eb_cons (es_if (et_not (et_val (ed_call G_law_is (hr.mono (by decide)) (by rfl) g_law_is k_law_is b_law_is (ea_cons (ed_call Gcrossings (hr.mono (by decide)) (by rfl) gcrossings kcrossings bcrossings (ea_cons (ed_lc rfl sc.nd (own := [("_law_one_here", 11), ("_law_other", 12)]) (ei_lst (dv 3)) (blkOk_by (N := ["_law_feed_here", "_law_way", "_law_turn", "_law_rows", "_law_moved", "_law_bad", "_law_place", "_law_most", "_law_kept", "_law_cross", "_law_apart", "_law_one_here", "_law_other"]) (sc := defScope s_law_right) (by decide +kernel)) (fun _ _ _ _ _ => (egc_tup rfl (egsc_cons (egc_name (i := 11) (by decide) sc.nd rfl (by first | exact Or.inl rfl | exact Or.inr rfl)) (egsc_cons (egc_name (i := 12) (by decide) sc.nd rfl (by first | exact Or.inl rfl | exact Or.inr rfl)) egsc_nil)))) (fun _ _ _ _ _ => ets_nil) (fun _ _ _ _ _ => (ed_tup (ea_cons (dv 11) (ea_cons (ed_sub ed_int (dv 12)) ea_nil))))) ea_nil)) (ea_cons (ed_sub (dv 10) (dv 9)) ea_nil))))) (eb_one (es_ret ed_bl)) eb_nil)
      (eb_cons (es_set (i := 5) sc.nd rfl (by first | exact Or.inl rfl | exact Or.inr rfl) (ed_call G_law_one (hr.mono (by decide)) (by rfl) g_law_one k_law_one b_law_one (ea_cons (dv 0) (ea_cons (ed_lst (ea_cons (ed_tup (ea_cons ed_int ea_nil)) (ea_cons (ed_tup (ea_cons ed_int (ea_cons ed_int (ea_cons ed_int ea_nil)))) (ea_cons (ed_lst (ea_cons ed_int (ea_cons ed_int ea_nil))) (ea_cons (ed_tup (ea_cons ed_bl (ea_cons ed_int ea_nil))) (ea_cons (ed_tup (ea_cons ed_int (ea_cons ed_non ea_nil))) (ea_cons (ed_tup (ea_cons ed_str (ea_cons ed_int ea_nil))) (ea_cons ed_int (ea_cons ed_non (ea_cons (ed_tup ea_nil) (ea_cons ed_str (ea_cons (ed_tup (ea_cons ed_int (ea_cons (ed_tup (ea_cons ed_int ea_nil)) ea_nil))) ea_nil)))))))))))) ea_nil))))
      (eb_cons (es_set (i := 6) sc.nd rfl (by first | exact Or.inl rfl | exact Or.inr rfl) (ed_call G_law_draw (hr.mono (by decide)) (by rfl) g_law_draw k_law_draw b_law_draw (ea_cons (dv 0) (ea_cons (ed_add (ed_callB call_len_seq src_len (by rfl) z_len PySem.boot_len (ea_cons (dv 3) ea_nil)) ed_int) ea_nil))))
      (eb_cons (es_if (ew_or (et_not (et_val (ed_call G_law_refused (hr.mono (by decide)) (by rfl) g_law_refused k_law_refused b_law_refused (ea_cons (ed_catL (ed_catL (ed_slL (dv 3) eo_none (eo_some (dv 6))) (ed_lst (ea_cons (dv 5) ea_nil))) (ed_slL (dv 3) (eo_some (dv 6)) eo_none)) ea_nil)))) (ew_or1 (et_not (et_val (ed_call G_law_refused (hr.mono (by decide)) (by rfl) g_law_refused k_law_refused b_law_refused (ea_cons (ed_callTy call_tuple_of src_tupOf (by rfl) z_tuple (by decide +kernel) (ea_cons (ed_catL (ed_catL (ed_slL (dv 3) eo_none (eo_some (dv 6))) (ed_lst (ea_cons (dv 5) ea_nil))) (ed_slL (dv 3) (eo_some (dv 6)) eo_none)) ea_nil)) ea_nil)))))).t (eb_one (es_ret ed_bl)) eb_nil)
      (eb_one (es_ret (ed_call G_law_refused (hr.mono (by decide)) (by rfl) g_law_refused k_law_refused b_law_refused (ea_cons (ed_call G_law_one (hr.mono (by decide)) (by rfl) g_law_one k_law_one b_law_one (ea_cons (dv 0) (ea_cons (ed_lst (ea_cons ed_non (ea_cons ed_int (ea_cons ed_str (ea_cons ed_str (ea_cons (ed_callTy (call_dictP rfl) src_dict1 (by rfl) z_dict (by decide +kernel) (ea_cons (ed_lst (ea_cons (ed_tup (ea_cons ed_int (ea_cons ed_int ea_nil))) ea_nil)) ea_nil)) (ea_cons ed_bl (ea_cons (ed_tup (ea_cons ed_int (ea_cons ed_int ea_nil))) (ea_cons (ed_lst (ea_cons ed_int ea_nil)) (ea_cons (ed_tup (ea_cons (ed_tup (ea_cons ed_int (ea_cons ed_int ea_nil))) (ea_cons ed_int ea_nil))) ea_nil)))))))))) ea_nil))) ea_nil)))))))))))))))), fun ws O S h => rd ws O S h⟩
abbrev slaw : Stmt := topS 22
theorem sclaw : FnScope ["_law_script", "_law_k"] ["_law_script"] (defScope slaw) := ⟨rfl, rfl, rfl, by decide +kernel, rfl, by decide +kernel, by decide +kernel⟩
abbrev nlaw : List Str := ["_law_script", "_law_k"]
def dlaw : DTS := (dSeq (dFor (diR1 (dCons (dCB rdMax2 (dCons (dC (.int 1)) (dCons (dCB rdMin2 (dCons (dCB rdLen (dCons (dVar 0) dNil)) (dCons (dC (.int 6)) dNil))) dNil))) dNil)) (dgName 1) (dIf (dNot (dTest (dCall sp_right (dCons (dCall sp_law_feed (dCons (dVar 0) (dCons (dVar 1) dNil))) dNil)))) (dRet (dC (.bl false))) dNext))
    (dRet (dAndV (dOp rdEq (dCall sp_crossings (dCons (dLst dNil) dNil)) (dC (.int 0))) (dOp rdEq (dCall sp_crossings (dCons (dTup dNil) dNil)) (dC (.int 0))))))
theorem oklaw {f : Addr} {fd : FuncData} (F : FnP K "law" slaw f fd) (z_range : mg "range" = none) (z_max : mg "max" = none) (z_min : mg "min" = none) (z_len : mg "len" = none)    {f_law_right : Addr} {fd_law_right : FuncData} (G_law_right : FnG P w K mg base 52 f_law_right fd_law_right ["_law_feed_here"] sp_right) (g_law_right : mg "_law_right" = some (.ref f_law_right)) (k_law_right : PySem.W.keepIn K (.ref f_law_right) = true) (b_law_right : Binds K fd_law_right ["_law_feed_here"] []) {fcrossings : Addr} {fdcrossings : FuncData} (Gcrossings : FnG P w K mg base 50 fcrossings fdcrossings ["links"] sp_crossings) (gcrossings : mg "crossings" = some (.ref fcrossings)) (kcrossings : PySem.W.keepIn K (.ref fcrossings) = true) (bcrossings : Binds K fdcrossings ["links"] []) {f_law_feed : Addr} {fd_law_feed : FuncData} (G_law_feed : FnG P w K mg base 1 f_law_feed fd_law_feed ["_law_script", "_law_k"] sp_law_feed) (g_law_feed : mg "_law_feed" = some (.ref f_law_feed)) (k_law_feed : PySem.W.keepIn K (.ref f_law_feed) = true) (b_law_feed : Binds K fd_law_feed ["_law_script", "_law_k"] []) 
    (len : ∀ ws O S, sp_law ws O S → ws.length = 1) (rd : ∀ ws O S, sp_law ws O S → dlaw (outB S) (startD ["_law_script", "_law_k"] ws) O) : FnG P w K mg base 53 f fd ["_law_script"] sp_law := by
  refine FunG F sclaw len fun cdv A outer s H hr => ?_
  have sc := sclaw
  exact ⟨dlaw, (eb_cons (es_for PassesOwn.never rfl (ei_range1 (by rfl) z_range (ea_cons (ed_callB (call_max2 rfl) src_max2 (by rfl) z_max (by decide +kernel) (ea_cons ed_int (ea_cons (ed_callB (call_min2 rfl) src_min2 (by rfl) z_min (by decide +kernel) (ea_cons (ed_callB call_len_seq src_len (by rfl) z_len PySem.boot_len (ea_cons (dv 0) ea_nil)) (ea_cons ed_int ea_nil))) ea_nil))) ea_nil)) (eg_name (i := 1) sc.nd rfl (by first | exact Or.inl rfl | exact Or.inr rfl)) (eb_one (es_if (et_not (et_val (ed_call G_law_right (hr.mono (by decide)) (by rfl) g_law_right k_law_right b_law_right (ea_cons (ed_call G_law_feed (hr.mono (by decide)) (by rfl) g_law_feed k_law_feed b_law_feed (ea_cons (dv 0) (ea_cons (dv 1) ea_nil))) ea_nil)))) (eb_one (es_ret ed_bl)) eb_nil)))
      (eb_one (es_ret (ed_and (ed_eq (ed_call Gcrossings (hr.mono (by decide)) (by rfl) gcrossings kcrossings bcrossings (ea_cons (ed_lst ea_nil) ea_nil)) ed_int) (ed_one (ed_eq (ed_call Gcrossings (hr.mono (by decide)) (by rfl) gcrossings kcrossings bcrossings (ea_cons (ed_tup ea_nil) ea_nil)) ed_int)))))), fun ws O S h => rd ws O S h⟩
end
end K28

set_option Elab.async false
set_option linter.all false
set_option maxRecDepth 100000
set_option maxHeartbeats 1000000
/-! k28: the program's defs do as promised. -/
namespace K28
open PySem PySem.Spec PyProof.Rows L2 Dm
theorem rd_is (ws : List W) (O : Sto) (S : WK) (h : sp_is ws O S) : d_law_is (outB S) (startD n_law_is ws) O := by
  obtain ⟨a, b, rfl, q⟩ := h
  refine ⟨_, rfl, ?_⟩
  refine ⟨.int a, "int", "int", true, rfl, rfl, by decide +kernel, _, rfl, ifT ?_⟩
  refine ⟨_, rfl, .int a, "bool", "int", false, rfl, rfl, by decide +kernel, _, rfl, _, rfl, ifT ?_⟩
  exact ⟨_, rfl, _, rfl, _, rfl, q⟩
/-! ### greater_ones -/
theorem flt_len {a : List Int} {p : Nat} {y : Int} (ha : a.Pairwise (· ≤ ·)) (hp : p ≤ a.length) (h1 : ∀ i x, i < p → a[i]? = some x → x ≤ y) (h2 : ∀ x, a[p]? = some x → y < x) : (a.filter fun x => Cross.gtI x y).length = a.length - p := by
  have e1 : (a.take p).filter (fun x => Cross.gtI x y) = [] := by
    rw [List.filter_eq_nil_iff]
    intro x hx
    obtain ⟨i, hi⟩ := List.getElem?_of_mem hx
    rw [List.getElem?_take] at hi
    split at hi
    · have := h1 i x (by assumption) hi
      unfold Cross.gtI
      rw [decide_eq_true_iff]
      omega
    · cases hi
  have e2 : (a.drop p).filter (fun x => Cross.gtI x y) = a.drop p := by
    rw [List.filter_eq_self]
    intro x hx
    obtain ⟨i, hi⟩ := List.getElem?_of_mem hx
    rw [List.getElem?_drop] at hi
    unfold Cross.gtI
    rw [decide_eq_true_iff]
    have hlt := (List.getElem?_eq_some_iff.mp hi).1
    have hx := (List.getElem?_eq_some_iff.mp hi).2
    have hpl : p < a.length := by omega
    have h3 := h2 a[p] (List.getElem?_eq_getElem hpl)
    by_cases e : i = 0
    · subst e
      rw [← hx]
      exact h3
    · have := List.pairwise_iff_getElem.mp ha p (p + i) hpl hlt (by omega)
      omega
  have e3 : a.filter (fun x => Cross.gtI x y) = a.drop p := by
    conv => lhs; rw [← List.take_append_drop p a]
    rw [List.filter_append, e1, e2, List.nil_append]
  rw [e3, List.length_drop]
theorem across_take {a b : List Int} {t : Nat} {y : Int} (h : b[t]? = some y) : Cross.across Cross.gtI a (b.take (t + 1)) = (a.filter fun x => Cross.gtI x y).length + Cross.across Cross.gtI a (b.take t) := by
  have e : b.take (t + 1) = b.take t ++ [y] := by rw [List.take_succ, h]; rfl
  rw [e, ← Cross.across_cons]
  exact Cross.across_perm_r (List.perm_append_comm) a
theorem at_intL {ns : List Int} {i : Nat} {z : W} (h : (ns.map W.int)[i]? = some z) : ∃ x, z = .int x ∧ ns[i]? = some x := by
  rw [List.getElem?_map] at h
  cases e : ns[i]? with
  | none => rw [e] at h; cases h
  | some x => rw [e] at h; cases h; exact ⟨x, rfl, rfl⟩
theorem rd_greater (ws : List W) (O : Sto) (S : WK) (h : sp_greater ws O S) : dgreater_ones (outB S) (startD ngreater_ones ws) O := by
  obtain ⟨j, k, a, b, rfl, hj, hk, ha, hb, q⟩ := h
  refine ⟨_, rfl, k, _, rfl, hk, ?_⟩
  refine for_lst (zs := b.map W.int) (fun t δ O' => O' = O ∧ t ≤ b.length ∧ ∃ (p : Nat) (x4 : Option W), δ = [some (.cell j), some (.cell k), some (.int (Cross.across Cross.gtI a (b.take t) : Nat)), some (.int (p : Int)), x4] ∧ p ≤ a.length ∧ ∀ i x u y, i < p → a[i]? = some x → t ≤ u → b[u]? = some y → x ≤ y) ⟨rfl, Nat.zero_le _, 0, none, ?_, Nat.zero_le _, fun i x u y h => by omega⟩ ?_ ?_ ?_
  · show [some (W.cell j), some (.cell k), some (.int 0), some (.int 0), none] = _
    rw [List.take_zero, Cross.across_nil]
    rfl
  · rintro i δ O' ⟨rfl, _⟩
    exact hk
  · rintro t z δ O' hz ⟨rfl, ht, p, x4, rfl, hp, hle⟩
    obtain ⟨y, rfl, hy⟩ := at_intL hz
    have hty := (List.getElem?_eq_some_iff.mp hy).1
    refine ⟨fun m δ O2 => O2 = O' ∧ ∃ (p : Nat), δ = [some (.cell j), some (.cell k), some (.int (Cross.across Cross.gtI a (b.take t) : Nat)), some (.int (p : Int)), some (.int y)] ∧ p ≤ a.length ∧ m = a.length - p ∧ ∀ i x u y, i < p → a[i]? = some x → t ≤ u → b[u]? = some y → x ≤ y, ⟨_, rfl, p, rfl, hp, rfl, hle⟩, ?_⟩
    rintro m δ O2 ⟨rfl, p, rfl, hp, rfl, hle⟩
    have fin : (∀ x, a[p]? = some x → y < x) → (dAug 2 (dSub (dCB rdLen (dCons (dVar 0) dNil)) (dVar 3)) fun n m => n + m) { outB S with nx := fun δ O' => O' = O2 ∧ t + 1 ≤ b.length ∧ ∃ (p : Nat) (x4 : Option W), δ = [some (.cell j), some (.cell k), some (.int (Cross.across Cross.gtI a (b.take (t + 1)) : Nat)), some (.int (p : Int)), x4] ∧ p ≤ a.length ∧ ∀ i x u y, i < p → a[i]? = some x → t + 1 ≤ u → b[u]? = some y → x ≤ y } [some (.cell j), some (.cell k), some (.int (Cross.across Cross.gtI a (b.take t) : Nat)), some (.int (p : Int)), some (.int y)] O2 := fun h2 => by
      refine ⟨_, rfl, _, rfl, .inr ⟨j, _, rfl, hj, _, rfl, _, _, rfl, rfl, _, _, rfl, rfl, rfl, hty, p, some (.int y), ?_, hp, fun i x u y h1 h2 h3 h4 => hle i x u y h1 h2 (by omega) h4⟩⟩
      have e := flt_len ha hp (fun i x h1 h3 => hle i x t y h1 h3 (Nat.le_refl _) hy) h2
      have e2 := across_take (a := a) hy
      rw [List.length_map]
      have e3 : ((Cross.across Cross.gtI a (b.take t) : Nat) : Int) + ((a.length : Int) - p) = ((Cross.across Cross.gtI a (b.take (t + 1)) : Nat) : Int) := by
        rw [e2, e]
        omega
      rw [← e3]
      rfl
    refine ⟨_, rfl, _, rfl, .inr ⟨j, _, rfl, hj, _, _, rfl, rfl, _, rfl, ?_⟩⟩
    rw [List.length_map]
    by_cases hlt : p < a.length
    · rw [decide_eq_true (show (p : Int) < (a.length : Int) by omega)]
      have hx : a[p]? = some a[p] := List.getElem?_eq_getElem hlt
      refine ifT ⟨_, rfl, _, rfl, j, _, _, .int a[p], rfl, rfl, hj, at_nat (by rw [List.getElem?_map, hx]; rfl), _, rfl, _, _, rfl, rfl, _, rfl, ?_⟩
      by_cases hc : a[p] ≤ y
      · rw [decide_eq_true hc]
        refine ifT ⟨fun δ O3 => O3 = O2 ∧ δ = [some (.cell j), some (.cell k), some (.int (Cross.across Cross.gtI a (b.take t) : Nat)), some (.int ((p + 1 : Nat) : Int)), some (.int y)], ?_, _, rfl, _, _, rfl, rfl, rfl, rfl⟩
        rintro δ O3 ⟨rfl, rfl⟩
        refine ⟨a.length - (p + 1), by omega, rfl, p + 1, rfl, hlt, rfl, fun i x u y' h1 h2 h3 h4 => ?_⟩
        by_cases e : i = p
        · subst e
          rw [hx] at h2
          cases h2
          have hu := (List.getElem?_eq_some_iff.mp h4)
          by_cases e2 : u = t
          · subst e2
            rw [hy] at h4
            cases h4
            exact hc
          · have := List.pairwise_iff_getElem.mp hb t u hty hu.1 (by omega)
            have e5 := (List.getElem?_eq_some_iff.mp hy).2
            have e6 := hu.2
            omega
        · exact hle i x u y' (by omega) h2 h3 h4
      · rw [decide_eq_false hc]
        exact ifF (fin fun x h => by rw [hx] at h; cases h; omega)
    · rw [decide_eq_false (show ¬ (p : Int) < (a.length : Int) by omega)]
      exact ifF (fin fun x h => by
        have := (List.getElem?_eq_some_iff.mp h).1
        omega)
  · rintro δ O' ⟨rfl, _, p, x4, rfl, _, _⟩
    rw [List.length_map, List.take_length]
    exact ⟨_, rfl, q⟩
/-! ### turned_round -/
theorem inv_small {ns : List Int} (h : ns.length < 2) : Cross.inv ns = 0 := by
  match ns, h with
  | [], _ => rfl
  | [x], _ => rfl
theorem rd_tr (n : Nat) (ws : List W) (O : Sto) (S : WK) (h : sp_tr (n + 1) ws O S) : dturned_round n (outB S) (startD nturned_round ws) O := by
  obtain ⟨k, ns, rfl, hk, hn, q⟩ := h
  refine ⟨_, rfl, .inr ⟨k, _, rfl, hk, _, _, rfl, rfl, _, rfl, ?_⟩⟩
  rw [List.length_map]
  by_cases h2 : ns.length < 2
  · rw [decide_eq_true (show (ns.length : Int) < 2 by omega)]
    refine ifT ?_
    have := q O Sm.refl
    rw [inv_small h2] at this
    exact this
  · rw [decide_eq_false (show ¬ (ns.length : Int) < 2 by omega)]
    refine ifF ?_
    refine ⟨_, rfl, .inr ⟨k, _, rfl, hk, _, _, rfl, rfl, ⟨by decide, by decide⟩, ?_⟩⟩
    rw [List.length_map]
    obtain ⟨m, hm⟩ : ∃ m : Nat, m = ns.length / 2 := ⟨_, rfl⟩
    have em : (ns.length : Int) / 2 = (m : Int) := by omega
    dsimp only
    rw [em]
    have hm1 : m ≤ ns.length := by omega
    refine ⟨_, rfl, _, rfl, (m : Int), rfl, k, _, rfl, hk, ?_⟩
    rw [cut_take W.int ns hm1]
    refine ⟨_, rfl, _, rfl, (m : Int), rfl, k, _, rfl, Sm.push.lstC hk, ?_⟩
    rw [cut_drop W.int ns hm1]
    have s1 : (((O ++ [Cell.lst ((ns.take m).map W.int)]) ++ [Cell.lst ((ns.drop m).map W.int)]) : Sto)[O.length]? = some (.lst ((ns.take m).map W.int)) := Sm.push _ _ push_at
    refine ⟨_, _, rfl, ?_⟩
    refine ⟨_, rfl, _, _, rfl, .inl s1, by rw [List.length_take]; omega, fun O1 hs1 => ?_⟩
    refine ⟨_, rfl, _, _, rfl, .inl (hs1 _ _ push_at), by rw [List.length_drop]; omega, fun O2 hs2 => ?_⟩
    refine ⟨_, _, rfl, rfl, ?_⟩
    refine ⟨_, rfl, _, _, rfl, .inl ((hs1.trans hs2) _ _ s1), fun a hpa hsa => ?_⟩
    refine ⟨_, rfl, _, _, rfl, .inl (((hs1.trans hs2).app _) _ _ push_at), fun b hpb hsb => ?_⟩
    refine ⟨_, _, a, b, rfl, .inl (Sm.push _ _ push_at), .inl push_at, hsa, hsb, _, _, rfl, rfl, ?_⟩
    have hs : Sm O ((O2 ++ [Cell.lst (a.map W.int)]) ++ [Cell.lst (b.map W.int)]) := ((((Sm.push.app _).trans hs1).trans hs2).app _).app _
    have := q _ hs
    have e : Cross.inv ns = Cross.inv (ns.take m) + Cross.inv (ns.drop m) + Cross.across Cross.gtI a b := by
      conv => lhs; rw [← List.take_append_drop m ns]
      unfold Cross.inv
      rw [Cross.cnt_append, Cross.across_perm_l hpa, Cross.across_perm_r hpb]
    rw [e] at this
    exact this
end K28

set_option Elab.async false
set_option linter.all false
set_option maxRecDepth 100000
set_option maxHeartbeats 1000000
/-! k28: is_link, crossings, what is refused. -/
namespace K28
open PySem PySem.Spec PyProof.Rows L2 Dm
theorem vw_sm {O O' : Sto} {w : W} (h : Vw O w) (s : Sm O O') : Vw O' w := by
  obtain ⟨⟨t, ht⟩, h2⟩ := h
  exact ⟨⟨t, s.ty ht⟩, h2⟩
theorem vwl_sm {O O' : Sto} {w : W} (h : VwL O w) (s : Sm O O') : VwL O' w := ⟨vw_sm h.1 s, fun a b e => ⟨vw_sm (h.2 a b e).1 s, vw_sm (h.2 a b e).2 s⟩⟩
theorem rd_is_link (ws : List W) (O : Sto) (S : WK) (h : sp_is_link ws O S) : dis_link (outB S) (startD nis_link ws) O := by
  obtain ⟨w, rfl, hv, q⟩ := h
  refine ⟨_, rfl, _, 2, 2, rfl, hv.1, _, rfl, ?_⟩
  have no : mTup w 2 2 = false → mLink w = false := fun h => by
    unfold mLink
    split
    · cases h
    · rfl
  have two : mTup w 2 2 = true → ∃ a b, w = .tup [a, b] := fun h => by
    cases w with
    | tup us =>
      have h : (decide ((2 : Int) ≤ (us.length : Int)) && decide ((us.length : Int) ≤ 2)) = true := h
      rw [Bool.and_eq_true, decide_eq_true_iff, decide_eq_true_iff] at h
      match us, h with
      | [], h => exact absurd h.1 (by decide)
      | [x], h => exact absurd h.1 (by simp)
      | [x, y], _ => exact ⟨x, y, rfl⟩
      | x :: y :: z :: r, h =>
        have := h.2
        simp only [List.length_cons] at this
        omega
    | _ => cases h
  cases e : mTup w 2 2 with
  | false =>
    rw [no e] at q
    exact ifF q
  | true =>
    obtain ⟨a, b, rfl⟩ := two e
    obtain ⟨va, vb⟩ := hv.2 a b rfl
    refine ifT ⟨_, rfl, _, _, _, rfl, rfl, at_nat (i := 0) rfl, a, rfl, va, _, rfl, ?_⟩
    cases ea : mInt a with
    | false =>
      have : mLink (.tup [a, b]) = false := by
        unfold mLink
        split
        · rename_i h
          cases h
          cases ea
        · rfl
      rw [this] at q
      exact ifF q
    | true =>
      refine ifT ⟨_, rfl, _, _, _, rfl, rfl, at_nat (i := 1) rfl, b, rfl, vb, ?_⟩
      have : mLink (.tup [a, b]) = mInt b := by
        cases a <;> cases ea
        cases b <;> rfl
      rw [this] at q
      exact q
/-! ### crossings -/
theorem kit_no {O : Sto} {x : W} {t : String} (h : tyW x O = some t) (h1 : t ≠ "list") (h2 : t ≠ "tuple") : kitB t "list" = some false ∧ kitB t "tuple" = some false := by
  have key : t = "NoneType" ∨ t = "bool" ∨ t = "int" ∨ t = "str" ∨ t = "tuple" ∨ t = "list" ∨ t = "dict" := by
    unfold tyW at h
    split at h
    · cases h; exact .inl rfl
    · cases h; exact .inr (.inl rfl)
    · cases h; exact .inr (.inr (.inl rfl))
    · cases h; exact .inr (.inr (.inr (.inl rfl)))
    · cases h; exact .inr (.inr (.inr (.inr (.inl rfl))))
    · split at h
      · cases h; exact .inr (.inr (.inr (.inr (.inr (.inl rfl)))))
      · cases h; exact .inr (.inr (.inr (.inr (.inr (.inl rfl)))))
      · cases h; exact .inr (.inr (.inr (.inr (.inr (.inr rfl)))))
      · cases h
    · cases h
  rcases key with rfl | rfl | rfl | rfl | rfl | rfl | rfl
  · exact ⟨by decide +kernel, by decide +kernel⟩
  · exact ⟨by decide +kernel, by decide +kernel⟩
  · exact ⟨by decide +kernel, by decide +kernel⟩
  · exact ⟨by decide +kernel, by decide +kernel⟩
  · exact absurd rfl h2
  · exact absurd rfl h1
  · exact ⟨by decide +kernel, by decide +kernel⟩
theorem kit_yes {O : Sto} {x : W} {us : List W} (h : Items O x us) : ∃ t b1 b2, tyW x O = some t ∧ kitB t "list" = some b1 ∧ kitB t "tuple" = some b2 ∧ (b1 || b2) = true := by
  rcases h.ty with h | h
  · exact ⟨_, false, true, h, by decide +kernel, by decide +kernel, rfl⟩
  · exact ⟨_, true, false, h, by decide +kernel, by decide +kernel, rfl⟩
theorem all_link (us : List W) : ((us.map mLink).all id) = true ↔ ∀ u ∈ us, mLink u = true := by
  rw [List.all_eq_true]
  constructor
  · intro h u hu
    exact h _ (List.mem_map_of_mem hu)
  · intro h b hb
    obtain ⟨u, hu, rfl⟩ := List.mem_map.mp hb
    exact h u hu
/-- the look at the entries -/
theorem look {x : W} {us : List W} {O : Sto} {x1 x2 x3 : Option W} {S : Bool → Sto → Prop} (hi : Items O x us) (hl : us.length ≤ 100) (hv : ∀ u ∈ us, VwL O u) (q : ∀ O', Sm O O' → S ((us.map mLink).all id) O') :
    (dTest (dCB rdAll (dCons (dLc (diQ 0) (dgName 3) dYes (dCall sp_is_link (dCons (dVar 3) dNil)) [3]) dNil))) [some x, x1, x2, x3] O S := by
  have key : dLc (diQ 0) (dgName 3) dYes (dCall sp_is_link (dCons (dVar 3) dNil)) [3] [some x, x1, x2, x3] O fun y O1 => rdAll [y] O1 fun y O1 => ∃ b, y = .bl b ∧ S b O1 := by
    refine ev_lcQ (f := fun w => .bl (mLink w)) rfl hi (by omega) (fun i z hz O' hs S1 h => ?_) fun O' hs hc => ?_
    · exact ⟨_, rfl, z, rfl, vwl_sm (hv z (List.mem_of_getElem? hz)) hs, h O' Sm.refl⟩
    · refine ⟨_, us.map mLink, rfl, .inl ?_, _, rfl, q O' hs⟩
      rw [hc, List.map_map]
      rfl
  exact key
def secW : W → W
  | .tup [_, b] => b
  | w => w
theorem sec_map (qs : List (Int × Int)) : (qs.map pairW).map secW = (qs.map (·.2)).map W.int := by
  rw [List.map_map, List.map_map]
  rfl
theorem pair_link (ps : List (Int × Int)) : ∀ u ∈ ps.map pairW, mLink u = true := by
  intro u hu
  obtain ⟨p, _, rfl⟩ := List.mem_map.mp hu
  rfl
theorem pair_vw {O : Sto} (ps : List (Int × Int)) : ∀ u ∈ ps.map pairW, VwL O u := by
  intro u hu
  obtain ⟨p, _, rfl⟩ := List.mem_map.mp hu
  refine ⟨⟨⟨_, rfl⟩, fun z e => by cases e⟩, fun a b e => ?_⟩
  cases e
  exact ⟨⟨⟨_, rfl⟩, fun z e => by cases e⟩, ⟨⟨_, rfl⟩, fun z e => by cases e⟩⟩
theorem lex_of {qs : List (Int × Int)} (h : qs.Pairwise fun x y => SrtO.lexB y x = false) : qs.Pairwise fun x y => x.1 < y.1 ∨ (x.1 = y.1 ∧ x.2 ≤ y.2) := by
  refine h.imp fun {x y} h => ?_
  have : ¬ (y.1 < x.1 ∨ (y.1 = x.1 ∧ y.2 < x.2)) := fun z => by
    rw [SrtO.lexB_iff.mpr z] at h
    cases h
  omega
theorem rd_crossings (K : PySem.W.Frag) (ws : List W) (O : Sto) (S : WK) (T : XD) (h : spx_crossings K ws O S T) : dcrossings K { nx := fun _ O' => S .non O', rt := S, ex := fun cls dk _ O' => T cls dk O' } (startD ncrossings ws) O := by
  obtain ⟨x, rfl, h⟩ := h
  rcases h with ⟨ps, ⟨hi, hl⟩, q⟩ | ⟨hno, q⟩
  · obtain ⟨t, b1, b2, ht, h1, h2, h3⟩ := kit_yes hi
    refine ⟨_, rfl, t, b1, b2, ht, h1, h2, _, rfl, ?_⟩
    rw [h3]
    refine ifF ?_
    refine look (x := x) (x1 := none) (x2 := none) (x3 := none) hi (by rw [List.length_map]; omega) (pair_vw ps) fun O1 hs1 => ?_
    rw [(all_link _).mpr (pair_link ps)]
    refine ifF ?_
    refine ⟨_, rfl, x, ps, rfl, hi.sm hs1, fun qs hp hsort => ⟨_, _, rfl, .inl push_at, ?_⟩⟩
    refine lc_gen1 (O1 := O1 ++ [Cell.lst (qs.map pairW)]) (f := secW) (zs := qs.map pairW) (S := fun x1 O1 => sp_tr 43 [x1] O1 S) (g := dgTup 2 (dgCons (dgName 1) (dgCons (dgName 2) dgNil))) (we := dVar 2) (vs := [1, 2]) (δ := startD ncrossings [x]) (at_lst (.inl push_at)) (by rw [List.length_map, hp.length_eq]; omega) (fun i z hz O' hs S1 h => ?_) fun O2 hs2 hc => ?_
    · rw [List.getElem?_map] at hz
      cases e : qs[i]? with
      | none => rw [e] at hz; cases hz
      | some p =>
        rw [e] at hz
        cases hz
        exact ⟨_, rfl, rfl, _, _, rfl, _, _, rfl, rfl, _, rfl, h O' Sm.refl⟩
    · rw [sec_map] at hc
      refine ⟨_, qs.map (·.2), rfl, .inl hc, by rw [List.length_map, hp.length_eq]; omega, fun O3 hs3 => ?_⟩
      have := q O3 (((hs1.trans Sm.push).trans hs2).trans hs3)
      rw [← Cross.cross_perm hp, ← Cross.cross_sorted (lex_of hsort)] at this
      exact this
  · rcases hno with ⟨⟨⟨t, ht⟩, _⟩, n1, n2⟩ | ⟨us, hi, hl, hv, u, hu, hb⟩
    · obtain ⟨h1, h2⟩ := kit_no ht (fun e => n1 (e ▸ ht)) (fun e => n2 (e ▸ ht))
      refine ⟨_, rfl, t, false, false, ht, h1, h2, _, rfl, ifT (ifT ?_)⟩
      exact ⟨sz_le (by show 1 ≤ 1000000; decide), q O Sm.refl⟩
    · obtain ⟨t, b1, b2, ht, h1, h2, h3⟩ := kit_yes hi
      refine ⟨_, rfl, t, b1, b2, ht, h1, h2, _, rfl, ?_⟩
      rw [h3]
      refine ifF ?_
      refine look (x := x) (x1 := none) (x2 := none) (x3 := none) hi hl hv fun O1 hs1 => ?_
      have : (us.map mLink).all id = false := by
        rw [Bool.eq_false_iff]
        intro z
        have := (all_link us).mp z u hu
        rw [hb] at this
        cases this
      rw [this]
      exact ifT ⟨sz_le (by show 1 ≤ 1000000; decide), q O1 hs1⟩
/-- what the law asks of the classes -/
structure Cls (K : PySem.W.Frag) : Prop where
  xc : XC K (He.ga K "BadLinks")
  exm : PySem.W.exmOne K (.ref (He.ga K "BadLinks")) (.ref (He.ga K "BadLinks")) = some true
  kt : PySem.W.kitOne K (.ref (He.ga K "BadLinks")) (.ref (He.ga K "TongueError")) = some true
  km : PySem.W.kitOne K (.ref (He.ga K "BadLinks")) (.ref (He.ga K "TooMany")) = some false
theorem rd_refused (K : PySem.W.Frag) (c : Cls K) (ws : List W) (O : Sto) (S : WK) (h : sp_refused ws O S) : d_law_refused K (outB S) (startD n_law_refused ws) O := by
  obtain ⟨x, rfl, hno, q⟩ := h
  refine ⟨_, rfl, x, rfl, .inr ⟨hno, fun O1 hs1 => ⟨c.exm, fun a d => ?_⟩⟩⟩
  refine ⟨_, rfl, _, none, _, .ref (He.ga K "TongueError"), true, rfl, rfl, .inl rfl, c.xc, rfl, c.kt, _, rfl, ifT ?_⟩
  refine ⟨_, rfl, _, none, _, .ref (He.ga K "TooMany"), false, rfl, rfl, .inl rfl, c.xc, rfl, c.km, _, rfl, ifT ?_⟩
  exact ⟨_, rfl, _, rfl, q O1 hs1⟩
end K28

set_option Elab.async false
set_option linter.all false
set_option maxRecDepth 100000
set_option maxHeartbeats 1000000
set_option exponentiation.threshold 2000
/-! k28: the law's own defs: the feed, mixed, crossed. -/
namespace K28
open PySem PySem.Spec PyProof.Rows L2 Dm
theorem feed_tail {k : Nat} {ns : List Int} {i x : Int} {S : WK} {O O1 : Sto} {D : DEnds} (hD : D.rt = S) (hx : x.natAbs.log2 ≤ 1048580) (i0 : 0 ≤ i) (i1 : i < 1000) (hs : Sm O O1) (q : ∀ m O', Sm O O' → O.length ≤ m → Fd O' m 1000000 → S (.cell m) O') :
    (dRet (dLst (dCons (dCB rdMax2 (dCons (dC (.int 0)) (dCons (dSub (dVar 2) (dPow (dC (.int 10)) (dC (.int 18)))) dNil))) (dCons (dMod (dCB rdInt1 (dCons (dAdd (dMul (dVar 2) (dC (.int 19))) (dMul (dC (.int 7)) (dVar 1))) dNil)) (dAdd (dPow (dC (.int 10)) (dC (.int 39))) (dC (.int 23)))) (dCons (dC (.int 0)) dNil))))) D [some (.cell k), some (.int i), some (.int x)] O1 := by
  have h18 : (-(10 ^ 18) : Int).natAbs.log2 ≤ 1048580 := small_log (n := 60) (by decide) (by decide) (by omega)
  have big : (0 : Int) < 10 ^ 39 + 23 := by decide
  refine ⟨_, rfl, _, _, rfl, rfl, (by show CPow 10 18; unfold CPow; decide), _, _, rfl, rfl, 0, _, rfl, ?_⟩
  refine ⟨_, rfl, _, _, rfl, rfl, (by show CMulB x 19; unfold CMulB; have : (19 : Int).natAbs.log2 ≤ 10 := small_log (n := 5) (by decide) (by decide) (by omega); omega), _, rfl, _, _, rfl, rfl, (by show CMulB 7 i; unfold CMulB; have : (7 : Int).natAbs.log2 ≤ 10 := small_log (n := 3) (by decide) (by decide) (by omega); have : i.natAbs.log2 ≤ 10 := small_log (n := 10) (by omega) (by decide) (by omega); omega), _, _, rfl, rfl, .inl ⟨_, rfl, ?_⟩⟩
  refine ⟨_, _, rfl, rfl, (by show CPow 10 39; unfold CPow; decide), _, _, rfl, rfl, _, _, rfl, rfl, big, ?_⟩
  refine ⟨sz_le (by show 3 ≤ 1000000; decide), ?_⟩
  rw [hD]
  refine q _ _ (hs.app _) hs.len ⟨if x - 10 ^ 18 > 0 then x - 10 ^ 18 else 0, (x * 19 + 7 * i) % (10 ^ 39 + 23), 0, push_at, ?_⟩
  refine ⟨?_, ?_, Int.emod_nonneg _ (by omega), ?_, Int.le_refl _, by decide⟩
  · split <;> omega
  · have h1 := log2_iadd (x := x) (y := -(10 ^ 18)) hx h18
    split
    · show (x - 10 ^ 18).natAbs.log2 < 2000000
      rw [Int.sub_eq_add_neg]
      omega
    · show (0 : Int).natAbs.log2 < 2000000
      decide
  · have := Int.emod_lt_of_pos (x * 19 + 7 * i) big
    have e : (10 : Int) ^ 39 + 23 < 2 ^ 140 := by decide
    omega
theorem rd_feed (ws : List W) (O : Sto) (S : WK) (h : sp_law_feed ws O S) : d_law_feed (outB S) (startD n_law_feed ws) O := by
  obtain ⟨k, ns, i, rfl, hc, hb, hn, i0, i1, q⟩ := h
  have ecut : cutW (ns.map W.int) none (some 1) = (ns.take 1).map W.int := by
    unfold cutW
    rw [show HT.sIx (ns.map W.int).length 0 none = 0 from rfl, show HT.sIx (ns.map W.int).length (ns.map W.int).length (some (1 : Int)) = min 1 (ns.map W.int).length from HT.sIx_nat _ _ 1, List.length_map, List.drop_zero, Nat.sub_zero, ← List.map_take]
    congr 1
    cases ns with
    | nil => rfl
    | cons a r => rw [List.length_cons, show min 1 (r.length + 1) = 1 by omega]
  have hsum : ((ns.take 1).sum).natAbs.log2 ≤ 1048576 := by
    cases ns with
    | nil => decide
    | cons a r =>
      have : ((a :: r).take 1).sum = a := by simp
      rw [this]
      exact bits_log (hb a List.mem_cons_self)
  refine ⟨_, rfl, _, _, rfl, rfl, (by show CMulB 977 i; unfold CMulB; have : (977 : Int).natAbs.log2 ≤ 10 := small_log (n := 10) (by decide) (by decide) (by omega); have : i.natAbs.log2 ≤ 10 := small_log (n := 10) (by omega) (by decide) (by omega); omega), _, rfl, 1, rfl, k, _, rfl, hc, ?_⟩
  rw [ecut]
  refine ⟨_, ns.take 1, rfl, .inl push_at, _, _, rfl, rfl, ?_⟩
  have hc1 : LstC (O ++ [Cell.lst ((ns.take 1).map W.int)]) k (ns.map W.int) := Sm.push.lstC hc
  refine ⟨_, rfl, _, rfl, .inr ⟨k, _, rfl, hc1, _, _, rfl, rfl, _, rfl, ?_⟩⟩
  by_cases hlt : i < ((ns.map W.int).length : Int)
  · rw [decide_eq_true hlt]
    rw [List.length_map] at hlt
    have hi : i.toNat < ns.length := by omega
    have ha : atI (ns.map W.int) i = some (.int ns[i.toNat]) := by
      have := atI_nat (j := i.toNat) (xs := ns.map W.int) (v := W.int ns[i.toNat]) (by rw [List.getElem?_map, List.getElem?_eq_getElem hi]; rfl)
      rwa [Int.toNat_of_nonneg i0] at this
    refine ifT ⟨_, rfl, _, rfl, k, _, _, _, rfl, rfl, hc1, ha, ?_⟩
    exact feed_tail (ns := ns) rfl (by have := bits_log (hb _ (List.getElem_mem hi)); omega) i0 i1 Sm.push q
  · rw [decide_eq_false hlt]
    refine ifF (feed_tail (ns := ns) rfl ?_ i0 i1 Sm.push q)
    have h1 : (977 * i).natAbs.log2 ≤ 1048578 := small_log (n := 20) (by omega) (by decide) (by omega)
    have := log2_iadd (x := 977 * i) (y := (ns.take 1).sum) (k := 1048578) h1 (by omega)
    omega
/-! ### mixed -/
theorem seqIx {i : Int} {n : Nat} (h0 : 0 ≤ i) (h1 : i < n) : seqIndex? i n = some i.toNat := by
  unfold seqIndex?
  have hj : (if i < 0 then i + (n : Int) else i) = i := if_neg (by omega)
  dsimp only
  rw [hj, if_pos (by rw [decide_eq_true h0, decide_eq_true h1]; rfl)]
theorem erase_perm {α : Type} : ∀ {l : List α} {i : Nat} (h : i < l.length), (l[i] :: l.eraseIdx i).Perm l
  | x :: l, 0, _ => List.Perm.refl _
  | x :: l, i + 1, h => (List.Perm.swap x _ _).trans ((erase_perm (l := l) (i := i) (Nat.lt_of_succ_lt_succ h)).cons x)
theorem map_erase {α β : Type} (f : α → β) : ∀ (l : List α) (i : Nat), (l.map f).eraseIdx i = (l.eraseIdx i).map f
  | [], _ => rfl
  | _ :: _, 0 => rfl
  | x :: l, i + 1 => by
    show f x :: (l.map f).eraseIdx i = f x :: (l.eraseIdx i).map f
    rw [map_erase f l i]
theorem rd_mixed (ws : List W) (O : Sto) (S : WK) (h : sp_mixed ws O S) : d_law_mixed (outB S) (startD n_law_mixed ws) O := by
  obtain ⟨k, j, n, ps, rfl, hjk, hj, hl, hf, q⟩ := h
  have hk := hf.lt
  refine ⟨_, rfl, .inr ⟨j, _, rfl, hj, ?_⟩⟩
  refine ⟨sz_le (by show 0 ≤ 1000000; decide), _, _, rfl, ?_⟩
  have el : (O ++ [Cell.lst (ps.map pairW)]).length = O.length + 1 := by rw [List.length_append]; rfl
  have hj2 : LstC ((O ++ [Cell.lst (ps.map pairW)]) ++ [Cell.lst []]) j (ps.map pairW) := (Sm.push.app _).lstC hj
  refine ⟨_, rfl, .inr ⟨j, _, rfl, hj2, ?_⟩⟩
  have en : ((ps.map pairW).length : Int) = (ps.length : Int) := by rw [List.length_map]
  refine ⟨_, rfl, by omega, by omega, ?_⟩
  refine for_up (lo := 0) (hi := ps.length) (fun t δ O1 => t ≤ ps.length ∧ ∃ (p g : List (Int × Int)) (x2 : Option W), δ = [some (.cell k), some (.cell j), x2, some (.cell O.length), some (.cell (O.length + 1))] ∧ p.length = ps.length - t ∧ (g ++ p).Perm ps ∧ Kp k O O1 ∧ Fd O1 k (n + (ps.length - t)) ∧ O1[O.length]? = some (.lst (p.map pairW)) ∧ O1[O.length + 1]? = some (.lst (g.map pairW))) rfl (by rw [en]; omega) (Nat.zero_le _) ?_ ?_ ?_
  · refine ⟨Nat.zero_le _, ps, [], none, ?_, rfl, List.Perm.refl _, (Sm.push.app _).kp, (hf.push.push).mono (by omega), Sm.push _ _ push_at, ?_⟩
    · show [some (W.cell k), some (.cell j), none, some (.cell O.length), some (.cell (O ++ [Cell.lst (ps.map pairW)]).length)] = _
      rw [el]
    · rw [← el]
      exact push_at
  · rintro t δ O1 _ ht ⟨_, p, g, x2, rfl, hp, hperm, hkp, hfd, cp, cg⟩
    have hlt1 := (List.getElem?_eq_some_iff.mp cp).1
    have hlt2 := (List.getElem?_eq_some_iff.mp cg).1
    refine ⟨_, rfl, ⟨_, _, rfl, .inl cg⟩, _, rfl, ⟨_, _, rfl, .inl cp⟩, _, rfl, _, rfl, .inr ⟨_, _, rfl, .inl cp, ?_⟩⟩
    have hpl : ((p.map pairW).length : Int) = (p.length : Int) := by rw [List.length_map]
    rw [hpl]
    refine ⟨k, (p.length : Int), n + (ps.length - (t + 1)), rfl, by omega, by omega, hfd.mono (by omega), fun r O2 r0 r1 kp2 fd2 => ?_⟩
    have cp2 := kp2.at_ _ _ (show O.length ≠ k by omega) cp
    have cg2 := kp2.at_ _ _ (show O.length + 1 ≠ k by omega) cg
    have hi : r.toNat < p.length := by omega
    refine ⟨O.length, p.map pairW, r, r.toNat, pairW p[r.toNat], rfl, rfl, cp2, by omega, by omega, by rw [List.length_map]; exact seqIx r0 (by omega), by rw [List.getElem?_map, List.getElem?_eq_getElem hi]; rfl, ?_⟩
    have cg3 : (O2.set O.length (.lst ((p.map pairW).eraseIdx r.toNat)))[O.length + 1]? = some (.lst (g.map pairW)) := by
      rw [List.getElem?_set_ne (by omega)]
      exact cg2
    refine ⟨O.length + 1, g.map pairW, _, rfl, rfl, cg3, ?_, ?_⟩
    · have := hperm.length_eq
      rw [List.length_append] at this
      rw [List.length_map]
      exact sz_lt (by omega)
    · refine ⟨by omega, p.eraseIdx r.toNat, g ++ [p[r.toNat]], _, rfl, ?_, ?_, ?_, ?_, ?_, ?_⟩
      · rw [List.length_eraseIdx, if_pos hi]
        omega
      · refine List.Perm.trans ?_ hperm
        rw [List.append_assoc]
        exact (erase_perm hi).append_left g
      · have k2 := hkp.trans kp2
        refine ⟨by rw [List.length_set, List.length_set]; exact k2.len, fun i c ni hc => ?_⟩
        have hli := (List.getElem?_eq_some_iff.mp hc).1
        rw [List.getElem?_set_ne (by omega), List.getElem?_set_ne (by omega)]
        exact k2.at_ i c ni hc
      · exact (fd2.set (by omega)).set (by omega)
      · rw [List.getElem?_set_ne (by omega), ← map_erase]
        exact List.getElem?_set_self (List.getElem?_eq_some_iff.mp cp2).1
      · rw [List.getElem?_set_self (by rw [List.length_set]; exact (List.getElem?_eq_some_iff.mp cg2).1), List.map_append]
        rfl
  · rintro δ O1 ⟨_, p, g, x2, rfl, hp, hperm, hkp, hfd, cp, cg⟩
    have hp0 : p = [] := List.length_eq_zero_iff.mp (by omega)
    rw [hp0, List.append_nil] at hperm
    exact ⟨_, rfl, q _ g O1 hperm hkp (hfd.mono (by omega)) (.inl cg)⟩
/-! ### crossed -/
theorem at_pair {ps : List (Int × Int)} {i : Nat} {p : Int × Int} (h : ps[i]? = some p) : atI (ps.map pairW) (i : Int) = some (.tup [.int p.1, .int p.2]) := at_nat (by rw [List.getElem?_map, h]; rfl)
theorem rd_crossed (ws : List W) (O : Sto) (S : WK) (h : sp_crossed ws O S) : d_law_crossed (outB S) (startD n_law_crossed ws) O := by
  obtain ⟨k, ps, rfl, hk, hl, q⟩ := h
  refine ⟨sz_le (by show 2 ≤ 1000000; decide), _, rfl, rfl, _, _, rfl, _, _, rfl, rfl, ?_⟩
  have en : ((ps.map pairW).length : Int) = (ps.length : Int) := by rw [List.length_map]
  refine ⟨_, rfl, .inr ⟨k, _, rfl, hk, _, rfl, by omega, by omega, ?_⟩⟩
  refine for_up (lo := 0) (hi := ps.length) (fun i δ O1 => O1 = O ∧ ∃ (x1 x4 x5 x6 : Option W), δ = [some (.cell k), x1, some (.int (Cross.cross (ps.take i) : Nat)), some (.int (Cross.apart (ps.take i) : Nat)), x4, x5, x6]) rfl (by rw [en]; omega) (Nat.zero_le _) ⟨rfl, _, _, _, _, rfl⟩ ?_ ?_
  · rintro i δ O1 _ hi ⟨rfl, x1, x4, x5, x6, rfl⟩
    obtain ⟨p, hp⟩ : ∃ p, ps[i]? = some p := ⟨_, List.getElem?_eq_getElem hi⟩
    refine ⟨_, rfl, _, rfl, by omega, by omega, ?_⟩
    refine for_up (lo := 0) (hi := i) (fun j δ O2 => O2 = O1 ∧ ∃ (x4 x5 x6 : Option W), δ = [some (.cell k), some (.int (i : Int)), some (.int ((Cross.cross (ps.take i) + ((ps.take j).filter fun y => Cross.crR p y).length : Nat) : Int)), some (.int ((Cross.apart (ps.take i) + ((ps.take j).filter fun y => Cross.apR p y).length : Nat) : Int)), x4, x5, x6]) rfl (by omega) (Nat.zero_le _) ⟨rfl, _, _, _, rfl⟩ ?_ ?_
    · rintro j δ O2 _ hj ⟨rfl, x4, x5, x6, rfl⟩
      obtain ⟨r, hr⟩ : ∃ r, ps[j]? = some r := ⟨_, List.getElem?_eq_getElem (by omega)⟩
      have et : ps.take (j + 1) = ps.take j ++ [r] := by rw [List.take_succ, hr]; rfl
      refine ⟨_, rfl, _, rfl, k, _, _, _, rfl, rfl, hk, at_pair hp, _, _, _, rfl, rfl, at_nat (i := 0) rfl, _, rfl, _, rfl, k, _, _, _, rfl, rfl, hk, at_pair hr, _, _, _, rfl, rfl, at_nat (i := 0) rfl, _, _, rfl, rfl, ?_⟩
      refine ⟨_, rfl, _, rfl, k, _, _, _, rfl, rfl, hk, at_pair hp, _, _, _, rfl, rfl, at_nat (i := 1) rfl, _, rfl, _, rfl, k, _, _, _, rfl, rfl, hk, at_pair hr, _, _, _, rfl, rfl, at_nat (i := 1) rfl, _, _, rfl, rfl, ?_⟩
      refine ⟨_, _, rfl, ?_⟩
      have fin : ∀ (c a : Nat), c = ((ps.take j).filter fun y => Cross.crR p y).length + (if Cross.crR p r = true then 1 else 0) → a = ((ps.take j).filter fun y => Cross.apR p y).length + (if Cross.apR p r = true then 1 else 0) → c = ((ps.take (j + 1)).filter fun y => Cross.crR p y).length ∧ a = ((ps.take (j + 1)).filter fun y => Cross.apR p y).length := by
        intro c a hc ha
        rw [et, List.filter_append, List.filter_append, List.length_append, List.length_append, hc, ha]
        constructor
        · congr 1
          by_cases e : Cross.crR p r = true
          · simp [e]
          · simp [e]
        · congr 1
          by_cases e : Cross.apR p r = true
          · simp [e]
          · simp [e]
      refine ⟨_, rfl, _, rfl, _, rfl, ?_⟩
      by_cases h1 : p.1 - r.1 = 0
      · rw [decide_eq_true h1]
        have e1 : Cross.apR p r = false := by
          rw [Bool.eq_false_iff]
          intro z
          have := (Cross.apR_iff.mp z).1
          omega
        have e2 : Cross.crR p r = false := by
          rw [Bool.eq_false_iff]
          intro z
          have := Cross.crR_iff.mp z
          omega
        obtain ⟨f1, f2⟩ := fin _ _ rfl rfl
        rw [e1, e2] at *
        refine ifF (ifF ⟨rfl, some (.int (j : Int)), some (.int (p.1 - r.1)), some (.int (p.2 - r.2)), ?_⟩)
        rw [← f1, ← f2]
        rfl
      · rw [decide_eq_false h1]
        refine ifT ⟨_, rfl, _, rfl, _, rfl, ?_⟩
        by_cases h2 : p.2 - r.2 = 0
        · rw [decide_eq_true h2]
          have e1 : Cross.apR p r = false := by
            rw [Bool.eq_false_iff]
            intro z
            have := (Cross.apR_iff.mp z).2
            omega
          have e2 : Cross.crR p r = false := by
            rw [Bool.eq_false_iff]
            intro z
            have := Cross.crR_iff.mp z
            omega
          obtain ⟨f1, f2⟩ := fin _ _ rfl rfl
          rw [e1, e2] at *
          refine ifF ⟨rfl, some (.int (j : Int)), some (.int (p.1 - r.1)), some (.int (p.2 - r.2)), ?_⟩
          rw [← f1, ← f2]
          rfl
        · rw [decide_eq_false h2]
          have e1 : Cross.apR p r = true := Cross.apR_iff.mpr ⟨by omega, by omega⟩
          have e2 : Cross.crR p r = !decide (decide (0 < p.1 - r.1) = decide (0 < p.2 - r.2)) := by
            refine Cross.bool_ext (Cross.crR_iff.trans ?_)
            rw [Bool.not_eq_true', decide_eq_false_iff_not, decide_eq_decide]
            omega
          refine ifT ⟨_, rfl, _, _, rfl, rfl, ?_⟩
          refine ⟨_, rfl, _, rfl, _, _, rfl, rfl, _, rfl, _, _, rfl, rfl, _, rfl, .inr ⟨_, rfl, _, _, rfl, rfl, ?_⟩⟩
          obtain ⟨f1, f2⟩ := fin _ _ rfl rfl
          refine ⟨rfl, some (.int (j : Int)), some (.int (p.1 - r.1)), some (.int (p.2 - r.2)), ?_⟩
          rw [← f1, ← f2, e1, e2]
          cases (decide (decide (0 < p.1 - r.1) = decide (0 < p.2 - r.2))) with
          | true => rfl
          | false => rfl
    · rintro δ O2 ⟨rfl, x4, x5, x6, rfl⟩
      refine ⟨rfl, some (.int (i : Int)), x4, x5, x6, ?_⟩
      have et : ps.take (i + 1) = ps.take i ++ [p] := by rw [List.take_succ, hp]; rfl
      have c1 : Cross.cross (ps.take (i + 1)) = Cross.cross (ps.take i) + ((ps.take i).filter fun y => Cross.crR p y).length := by
        unfold Cross.cross
        rw [et]
        exact Cross.cnt_snoc Cross.crR_symm _ _
      have c2 : Cross.apart (ps.take (i + 1)) = Cross.apart (ps.take i) + ((ps.take i).filter fun y => Cross.apR p y).length := by
        unfold Cross.apart
        rw [et]
        exact Cross.cnt_snoc (fun x y => Cross.bool_ext (Cross.apR_iff.trans (Iff.trans ⟨fun h => ⟨Ne.symm h.1, Ne.symm h.2⟩, fun h => ⟨Ne.symm h.1, Ne.symm h.2⟩⟩ Cross.apR_iff.symm))) _ _
      rw [c1, c2]
  · rintro δ O1 ⟨rfl, x1, x4, x5, x6, rfl⟩
    rw [List.take_length]
    exact ⟨_, rfl, _, rfl, sz_le (by show 2 ≤ 1000000; decide), q⟩
end K28

set_option Elab.async false
set_option linter.all false
set_option maxRecDepth 100000
set_option maxHeartbeats 1000000
set_option exponentiation.threshold 2000
/-! k28: one turn of the law; the law. -/
namespace K28
open PySem PySem.Spec PyProof.Rows L2 Dm
abbrev tA : DTS := (dSeq (dSet 3 (dSlL (dVar 3) dNoPart (dPart (dC (.int 20)))))
(dSeq (dAsg (dTup (dCons (dCall sp_crossed (dCons (dVar 3) dNil)) (dCons (dCB rdListOf (dCons (dVar 3) dNil)) dNil))) (dgTup 2 (dgCons (dgTup 2 (dgCons (dgName 9) (dgCons (dgName 10) dgNil))) (dgCons (dgName 8) dgNil))))
(dSeq (dSet 4 (dCall sp_law_draw (dCons (dVar 0) (dCons (dPow (dC (.int 10)) (dC (.int 20))) dNil))))
(dSeq (dIf (dOr (dNot (dTest (dCall sp_is (dCons (dCall sp_crossings (dCons (dVar 3) dNil)) (dCons (dVar 9) dNil))))) (dOr (dNot (dTest (dCall sp_is (dCons (dCall sp_crossings (dCons (dCB rdTupOf (dCons (dVar 3) dNil)) dNil)) (dCons (dVar 9) dNil))))) (dNot (dTest (dCall sp_is (dCons (dCallK0 sp_crossings (dCons (dCall sp_mixed (dCons (dVar 0) (dCons (dVar 3) dNil))) dNil)) (dCons (dVar 9) dNil))))))) (dRet (dC (.bl false))) dNext)
(dSeq (dIf (dOr (dTest (dOp rdNeD (dVar 3) (dVar 8))) (dOr (dTest (dOp rdNe (dCall sp_crossings (dCons (dLc (diL (dVar 3)) (dgTup 2 (dgCons (dgName 11) (dgCons (dgName 12) dgNil))) dYes (dTup (dCons (dVar 12) (dCons (dVar 11) dNil))) [11, 12]) dNil)) (dVar 9))) (dTest (dOp rdNe (dCall sp_crossings (dCons (dLc (diL (dVar 3)) (dgTup 2 (dgCons (dgName 11) (dgCons (dgName 12) dgNil))) dYes (dTup (dCons (dAdd (dVar 11) (dVar 4)) (dCons (dSub (dVar 12) (dVar 4)) dNil))) [11, 12]) dNil)) (dVar 9))))) (dRet (dC (.bl false))) dNext)
(dSeq (dIf (dNot (dTest (dCall sp_is (dCons (dCall sp_crossings (dCons (dLc (diL (dVar 3)) (dgTup 2 (dgCons (dgName 11) (dgCons (dgName 12) dgNil))) dYes (dTup (dCons (dVar 11) (dCons (dSub (dC (.int 0)) (dVar 12)) dNil))) [11, 12]) dNil)) (dCons (dSub (dVar 10) (dVar 9)) dNil))))) (dRet (dC (.bl false))) dNext)
(dSeq (dSet 5 (dCall sp_law_oneL (dCons (dVar 0) (dCons (dLst (dCons (dTup (dCons (dC (.int 1)) dNil)) (dCons (dTup (dCons (dC (.int 1)) (dCons (dC (.int 2)) (dCons (dC (.int 3)) dNil)))) (dCons (dLst (dCons (dC (.int 1)) (dCons (dC (.int 2)) dNil))) (dCons (dTup (dCons (dC (.bl true)) (dCons (dC (.int 1)) dNil))) (dCons (dTup (dCons (dC (.int 1)) (dCons (dC .non) dNil))) (dCons (dTup (dCons (dC (.str "0")) (dCons (dC (.int 1)) dNil))) (dCons (dC (.int 5)) (dCons (dC .non) (dCons (dTup dNil) (dCons (dC (.str "ab")) (dCons (dTup (dCons (dC (.int 1)) (dCons (dTup (dCons (dC (.int 2)) dNil)) dNil))) dNil)))))))))))) dNil))))
(dSeq (dSet 6 (dCall sp_law_draw (dCons (dVar 0) (dCons (dAdd (dCB rdLen (dCons (dVar 3) dNil)) (dC (.int 1))) dNil))))
(dSeq (dIf (dOr (dNot (dTest (dCall sp_refused (dCons (dCatL (dCatL (dSlL (dVar 3) dNoPart (dPart (dVar 6))) (dLst (dCons (dVar 5) dNil))) (dSlL (dVar 3) (dPart (dVar 6)) dNoPart)) dNil)))) (dNot (dTest (dCall sp_refused (dCons (dCB rdTupOf (dCons (dCatL (dCatL (dSlL (dVar 3) dNoPart (dPart (dVar 6))) (dLst (dCons (dVar 5) dNil))) (dSlL (dVar 3) (dPart (dVar 6)) dNoPart)) dNil)) dNil))))) (dRet (dC (.bl false))) dNext)
(dRet (dCall sp_refused (dCons (dCall sp_law_oneL (dCons (dVar 0) (dCons (dLst (dCons (dC .non) (dCons (dC (.int 0)) (dCons (dC (.str "")) (dCons (dC (.str "links")) (dCons (dCB rdDict1 (dCons (dLst (dCons (dTup (dCons (dC (.int 0)) (dCons (dC (.int 1)) dNil))) dNil)) dNil)) (dCons (dC (.bl true)) (dCons (dTup (dCons (dC (.int 1)) (dCons (dC (.int 2)) dNil))) (dCons (dLst (dCons (dC (.int 1)) dNil)) (dCons (dTup (dCons (dTup (dCons (dC (.int 1)) (dCons (dC (.int 2)) dNil))) (dCons (dC (.int 3)) dNil))) dNil)))))))))) dNil))) dNil))))))))))))
abbrev tB : DTS := (dSeq (dSet 4 (dCall sp_law_draw (dCons (dVar 0) (dCons (dPow (dC (.int 10)) (dC (.int 20))) dNil))))
(dSeq (dIf (dOr (dNot (dTest (dCall sp_is (dCons (dCall sp_crossings (dCons (dVar 3) dNil)) (dCons (dVar 9) dNil))))) (dOr (dNot (dTest (dCall sp_is (dCons (dCall sp_crossings (dCons (dCB rdTupOf (dCons (dVar 3) dNil)) dNil)) (dCons (dVar 9) dNil))))) (dNot (dTest (dCall sp_is (dCons (dCallK0 sp_crossings (dCons (dCall sp_mixed (dCons (dVar 0) (dCons (dVar 3) dNil))) dNil)) (dCons (dVar 9) dNil))))))) (dRet (dC (.bl false))) dNext)
(dSeq (dIf (dOr (dTest (dOp rdNeD (dVar 3) (dVar 8))) (dOr (dTest (dOp rdNe (dCall sp_crossings (dCons (dLc (diL (dVar 3)) (dgTup 2 (dgCons (dgName 11) (dgCons (dgName 12) dgNil))) dYes (dTup (dCons (dVar 12) (dCons (dVar 11) dNil))) [11, 12]) dNil)) (dVar 9))) (dTest (dOp rdNe (dCall sp_crossings (dCons (dLc (diL (dVar 3)) (dgTup 2 (dgCons (dgName 11) (dgCons (dgName 12) dgNil))) dYes (dTup (dCons (dAdd (dVar 11) (dVar 4)) (dCons (dSub (dVar 12) (dVar 4)) dNil))) [11, 12]) dNil)) (dVar 9))))) (dRet (dC (.bl false))) dNext)
(dSeq (dIf (dNot (dTest (dCall sp_is (dCons (dCall sp_crossings (dCons (dLc (diL (dVar 3)) (dgTup 2 (dgCons (dgName 11) (dgCons (dgName 12) dgNil))) dYes (dTup (dCons (dVar 11) (dCons (dSub (dC (.int 0)) (dVar 12)) dNil))) [11, 12]) dNil)) (dCons (dSub (dVar 10) (dVar 9)) dNil))))) (dRet (dC (.bl false))) dNext)
(dSeq (dSet 5 (dCall sp_law_oneL (dCons (dVar 0) (dCons (dLst (dCons (dTup (dCons (dC (.int 1)) dNil)) (dCons (dTup (dCons (dC (.int 1)) (dCons (dC (.int 2)) (dCons (dC (.int 3)) dNil)))) (dCons (dLst (dCons (dC (.int 1)) (dCons (dC (.int 2)) dNil))) (dCons (dTup (dCons (dC (.bl true)) (dCons (dC (.int 1)) dNil))) (dCons (dTup (dCons (dC (.int 1)) (dCons (dC .non) dNil))) (dCons (dTup (dCons (dC (.str "0")) (dCons (dC (.int 1)) dNil))) (dCons (dC (.int 5)) (dCons (dC .non) (dCons (dTup dNil) (dCons (dC (.str "ab")) (dCons (dTup (dCons (dC (.int 1)) (dCons (dTup (dCons (dC (.int 2)) dNil)) dNil))) dNil)))))))))))) dNil))))
(dSeq (dSet 6 (dCall sp_law_draw (dCons (dVar 0) (dCons (dAdd (dCB rdLen (dCons (dVar 3) dNil)) (dC (.int 1))) dNil))))
(dSeq (dIf (dOr (dNot (dTest (dCall sp_refused (dCons (dCatL (dCatL (dSlL (dVar 3) dNoPart (dPart (dVar 6))) (dLst (dCons (dVar 5) dNil))) (dSlL (dVar 3) (dPart (dVar 6)) dNoPart)) dNil)))) (dNot (dTest (dCall sp_refused (dCons (dCB rdTupOf (dCons (dCatL (dCatL (dSlL (dVar 3) dNoPart (dPart (dVar 6))) (dLst (dCons (dVar 5) dNil))) (dSlL (dVar 3) (dPart (dVar 6)) dNoPart)) dNil)) dNil))))) (dRet (dC (.bl false))) dNext)
(dRet (dCall sp_refused (dCons (dCall sp_law_oneL (dCons (dVar 0) (dCons (dLst (dCons (dC .non) (dCons (dC (.int 0)) (dCons (dC (.str "")) (dCons (dC (.str "links")) (dCons (dCB rdDict1 (dCons (dLst (dCons (dTup (dCons (dC (.int 0)) (dCons (dC (.int 1)) dNil))) dNil)) dNil)) (dCons (dC (.bl true)) (dCons (dTup (dCons (dC (.int 1)) (dCons (dC (.int 2)) dNil))) (dCons (dLst (dCons (dC (.int 1)) dNil)) (dCons (dTup (dCons (dTup (dCons (dC (.int 1)) (dCons (dC (.int 2)) dNil))) (dCons (dC (.int 3)) dNil))) dNil)))))))))) dNil))) dNil))))))))))
abbrev tC : DTS := (dSeq (dSet 5 (dCall sp_law_oneL (dCons (dVar 0) (dCons (dLst (dCons (dTup (dCons (dC (.int 1)) dNil)) (dCons (dTup (dCons (dC (.int 1)) (dCons (dC (.int 2)) (dCons (dC (.int 3)) dNil)))) (dCons (dLst (dCons (dC (.int 1)) (dCons (dC (.int 2)) dNil))) (dCons (dTup (dCons (dC (.bl true)) (dCons (dC (.int 1)) dNil))) (dCons (dTup (dCons (dC (.int 1)) (dCons (dC .non) dNil))) (dCons (dTup (dCons (dC (.str "0")) (dCons (dC (.int 1)) dNil))) (dCons (dC (.int 5)) (dCons (dC .non) (dCons (dTup dNil) (dCons (dC (.str "ab")) (dCons (dTup (dCons (dC (.int 1)) (dCons (dTup (dCons (dC (.int 2)) dNil)) dNil))) dNil)))))))))))) dNil))))
(dSeq (dSet 6 (dCall sp_law_draw (dCons (dVar 0) (dCons (dAdd (dCB rdLen (dCons (dVar 3) dNil)) (dC (.int 1))) dNil))))
(dSeq (dIf (dOr (dNot (dTest (dCall sp_refused (dCons (dCatL (dCatL (dSlL (dVar 3) dNoPart (dPart (dVar 6))) (dLst (dCons (dVar 5) dNil))) (dSlL (dVar 3) (dPart (dVar 6)) dNoPart)) dNil)))) (dNot (dTest (dCall sp_refused (dCons (dCB rdTupOf (dCons (dCatL (dCatL (dSlL (dVar 3) dNoPart (dPart (dVar 6))) (dLst (dCons (dVar 5) dNil))) (dSlL (dVar 3) (dPart (dVar 6)) dNoPart)) dNil)) dNil))))) (dRet (dC (.bl false))) dNext)
(dRet (dCall sp_refused (dCons (dCall sp_law_oneL (dCons (dVar 0) (dCons (dLst (dCons (dC .non) (dCons (dC (.int 0)) (dCons (dC (.str "")) (dCons (dC (.str "links")) (dCons (dCB rdDict1 (dCons (dLst (dCons (dTup (dCons (dC (.int 0)) (dCons (dC (.int 1)) dNil))) dNil)) dNil)) (dCons (dC (.bl true)) (dCons (dTup (dCons (dC (.int 1)) (dCons (dC (.int 2)) dNil))) (dCons (dLst (dCons (dC (.int 1)) dNil)) (dCons (dTup (dCons (dTup (dCons (dC (.int 1)) (dCons (dC (.int 2)) dNil))) (dCons (dC (.int 3)) dNil))) dNil)))))))))) dNil))) dNil))))))
/-- what stands through a turn -/
structure Rt (O : Sto) (k R : Nat) (qs : List (Int × Int)) (n : Nat) (O' : Sto) : Prop where
  kp : Kp k O O'
  fd : Fd O' k n
  r : O'[R]? = some (.lst (qs.map pairW))
  nr : R ≠ k
  len : qs.length ≤ 40
theorem Rt.sm {O O' O'' : Sto} {k R n : Nat} {qs : List (Int × Int)} (h : Rt O k R qs n O') (s : Sm O' O'') : Rt O k R qs n O'' := ⟨h.kp.trans s.kp, fd_sm h.fd s, s _ _ h.r, h.nr, h.len⟩
theorem Rt.draw {O O' O'' : Sto} {k R n m : Nat} {qs : List (Int × Int)} (h : Rt O k R qs n O') (kp : Kp k O' O'') (fd : Fd O'' k m) : Rt O k R qs m O'' := ⟨h.kp.trans kp, fd, kp.at_ _ _ h.nr h.r, h.nr, h.len⟩
theorem Rt.mono {O O' : Sto} {k R n m : Nat} {qs : List (Int × Int)} (h : Rt O k R qs n O') (l : m ≤ n) : Rt O k R qs m O' := ⟨h.kp, h.fd.mono l, h.r, h.nr, h.len⟩
theorem kp_fresh {k : Nat} {O O' : Sto} {i : Nat} {c : Cell} (h : Kp k O O') (hk : i ≠ k) (hc : O[i]? = some c) : O'[i]? = some c := h.at_ i c hk hc
theorem vw_int (O : Sto) (i : Int) : Vw O (.int i) := ⟨⟨_, rfl⟩, fun z e => by cases e⟩
theorem vw_bl (O : Sto) (b : Bool) : Vw O (.bl b) := ⟨⟨_, rfl⟩, fun z e => by cases e⟩
theorem vw_non (O : Sto) : Vw O .non := ⟨⟨_, rfl⟩, fun z e => by cases e⟩
theorem vw_tup (O : Sto) (us : List W) : Vw O (.tup us) := ⟨⟨_, rfl⟩, fun z e => by cases e⟩
theorem vw_str (O : Sto) {x : Str} (h : x.length ≤ 1000000) : Vw O (.str x) := ⟨⟨_, rfl⟩, fun z e => by cases e; exact h⟩
theorem vw_lst {O : Sto} {c : Nat} {us : List W} (h : O[c]? = some (.lst us)) : Vw O (.cell c) := ⟨⟨"list", by
  show (match O[c]? with | some (.lst _) => some "list" | some (.rol _) => some "list" | some (.dct _) => some "dict" | _ => none) = _
  rw [h]⟩, fun z e => by cases e⟩
theorem vw_dct {O : Sto} {c : Nat} {us : List (Key × W)} (h : O[c]? = some (.dct us)) : tyW (.cell c) O = some "dict" := by
  show (match O[c]? with | some (.lst _) => some "list" | some (.rol _) => some "list" | some (.dct _) => some "dict" | _ => none) = _
  rw [h]
theorem vwl_of {O : Sto} {w : W} (h : Vw O w) (n : ∀ a b, w ≠ .tup [a, b]) : VwL O w := ⟨h, fun a b e => absurd e (n a b)⟩
theorem vwl_two {O : Sto} {a b : W} (ha : Vw O a) (hb : Vw O b) : VwL O (.tup [a, b]) := ⟨vw_tup O _, fun x y e => by cases e; exact ⟨ha, hb⟩⟩
/-- no link, that may be asked -/
def BadW (O : Sto) (w : W) : Prop := VwL O w ∧ mLink w = false
theorem bad_sm {O O' : Sto} {w : W} (h : BadW O w) (s : Sm O O') : BadW O' w := ⟨vwl_sm h.1 s, h.2⟩
theorem no_of {O : Sto} {x : W} {us : List W} {u : W} (hi : Items O x us) (hl : us.length ≤ 100) (hv : ∀ u ∈ us, VwL O u) (hu : u ∈ us) (hb : mLink u = false) : NoLinks O x := .inr ⟨us, hi, hl, hv, u, hu, hb⟩
theorem no_one {O : Sto} {x : W} {t : String} (h : Vw O x) (ht : tyW x O = some t) (h1 : t ≠ "list") (h2 : t ≠ "tuple") : NoLinks O x := .inl ⟨h, fun e => h1 (by rw [ht] at e; exact Option.some.inj e), fun e => h2 (by rw [ht] at e; exact Option.some.inj e)⟩
theorem put_in {O : Sto} {qs : List (Int × Int)} {b : W} {m : Nat} (hl : qs.length ≤ 40) (hb : BadW O b) : ((((qs.take m).map pairW) ++ [b]) ++ ((qs.drop m).map pairW)).length ≤ 100 ∧ (∀ u ∈ (((qs.take m).map pairW) ++ [b]) ++ ((qs.drop m).map pairW), VwL O u) ∧ b ∈ (((qs.take m).map pairW) ++ [b]) ++ ((qs.drop m).map pairW) := by
  refine ⟨?_, ?_, ?_⟩
  · simp only [List.length_append, List.length_map, List.length_take, List.length_drop, List.length_cons, List.length_nil]
    omega
  · intro u hu
    rw [List.mem_append, List.mem_append, List.mem_singleton] at hu
    rcases hu with (hu | rfl) | hu
    · exact pair_vw _ u hu
    · exact hb.1
    · exact pair_vw _ u hu
  · rw [List.mem_append, List.mem_append, List.mem_singleton]
    exact .inl (.inr rfl)
/-- rows[:place] + [bad] + rows[place:] -/
theorem ev_put {k R n m : Nat} {qs : List (Int × Int)} {O O' : Sto} {b : W} {x1 x2 x4 x7 x8 x9 x10 x11 x12 : Option W} {S : WK} (h : Rt O k R qs n O') (hm : m ≤ qs.length) (q : ∀ O'' c, Sm O' O'' → O''[c]? = some (.lst ((((qs.take m).map pairW) ++ [b]) ++ ((qs.drop m).map pairW))) → S (.cell c) O'') :
    (dCatL (dCatL (dSlL (dVar 3) dNoPart (dPart (dVar 6))) (dLst (dCons (dVar 5) dNil))) (dSlL (dVar 3) (dPart (dVar 6)) dNoPart)) [some (.cell k), x1, x2, some (.cell R), x4, some b, some (.int (m : Int)), x7, x8, x9, x10, x11, x12] O' S := by
  have hl := h.len
  refine ⟨_, rfl, _, rfl, (m : Int), rfl, R, _, rfl, .inl h.r, ?_⟩
  rw [cut_take pairW qs hm]
  refine ⟨_, rfl, sz_le (by show 1 ≤ 1000000; decide), _, _, _, _, rfl, rfl, Sm.push _ _ push_at, push_at, ?_, ?_⟩
  · rw [List.length_map, List.length_take]
    exact sz_le (by show _ + 1 ≤ 1000000; omega)
  have s1 : Sm O' (((O' ++ [Cell.lst ((qs.take m).map pairW)]) ++ [Cell.lst [b]]) ++ [Cell.lst ((qs.take m).map pairW ++ [b])]) := (Sm.push.app _).app _
  refine ⟨_, rfl, _, rfl, (m : Int), rfl, R, _, rfl, .inl (s1 _ _ h.r), ?_⟩
  rw [cut_drop pairW qs hm]
  refine ⟨_, _, _, _, rfl, rfl, Sm.push _ _ push_at, push_at, ?_, q _ _ ((s1.app _).app _) push_at⟩
  rw [List.length_append, List.length_map, List.length_map, List.length_take, List.length_drop]
  exact sz_le (by show _ + 1 + _ ≤ 1000000; omega)
theorem bads {O : Sto} {c : Nat} {w : W} (hc : O[c]? = some (.lst [.int 1, .int 2])) (h : w ∈ [W.tup [.int 1], .tup [.int 1, .int 2, .int 3], .cell c, .tup [.bl true, .int 1], .tup [.int 1, .non], .tup [.str "0", .int 1], .int 5, .non, .tup [], .str "ab", .tup [.int 1, .tup [.int 2]]]) : BadW O w := by
  simp only [List.mem_cons, List.not_mem_nil, or_false] at h
  rcases h with rfl | rfl | rfl | rfl | rfl | rfl | rfl | rfl | rfl | rfl | rfl
  · exact ⟨vwl_of (vw_tup _ _) (fun a b e => by cases e), rfl⟩
  · exact ⟨vwl_of (vw_tup _ _) (fun a b e => by cases e), rfl⟩
  · exact ⟨vwl_of (vw_lst hc) (fun a b e => by cases e), rfl⟩
  · exact ⟨vwl_two (vw_bl _ _) (vw_int _ _), rfl⟩
  · exact ⟨vwl_two (vw_int _ _) (vw_non _), rfl⟩
  · exact ⟨vwl_two (vw_str _ (by decide +kernel)) (vw_int _ _), rfl⟩
  · exact ⟨vwl_of (vw_int _ _) (fun a b e => by cases e), rfl⟩
  · exact ⟨vwl_of (vw_non _) (fun a b e => by cases e), rfl⟩
  · exact ⟨vwl_of (vw_tup _ _) (fun a b e => by cases e), rfl⟩
  · exact ⟨vwl_of (vw_str _ (by decide +kernel)) (fun a b e => by cases e), rfl⟩
  · exact ⟨vwl_two (vw_int _ _) (vw_tup _ _), rfl⟩
theorem nots {O : Sto} {c d : Nat} {w : W} {kvs : List (Key × W)} (hd : O[d]? = some (.dct kvs)) (hc : O[c]? = some (.lst [.int 1])) (h : w ∈ [W.non, .int 0, .str "", .str "links", .cell d, .bl true, .tup [.int 1, .int 2], .cell c, .tup [.tup [.int 1, .int 2], .int 3]]) : NoLinks O w := by
  simp only [List.mem_cons, List.not_mem_nil, or_false] at h
  have vi : ∀ i, VwL O (.int i) := fun i => vwl_of (vw_int _ _) fun a b e => by cases e
  rcases h with rfl | rfl | rfl | rfl | rfl | rfl | rfl | rfl | rfl
  · exact no_one (vw_non _) rfl (by decide) (by decide)
  · exact no_one (vw_int _ _) rfl (by decide) (by decide)
  · exact no_one (vw_str _ (by decide +kernel)) rfl (by decide) (by decide)
  · exact no_one (vw_str _ (by decide +kernel)) rfl (by decide) (by decide)
  · exact no_one ⟨⟨_, vw_dct hd⟩, fun z e => by cases e⟩ (vw_dct hd) (by decide) (by decide)
  · exact no_one (vw_bl _ _) rfl (by decide) (by decide)
  · refine no_of (us := [.int 1, .int 2]) (u := .int 1) (.inl rfl) (by decide) (fun u hu => ?_) List.mem_cons_self rfl
    simp only [List.mem_cons, List.not_mem_nil, or_false] at hu
    rcases hu with rfl | rfl
    · exact vi 1
    · exact vi 2
  · refine no_of (us := [.int 1]) (u := .int 1) (.inr ⟨c, rfl, .inl hc⟩) (by decide) (fun u hu => ?_) List.mem_cons_self rfl
    simp only [List.mem_cons, List.not_mem_nil, or_false] at hu
    subst hu
    exact vi 1
  · refine no_of (us := [.tup [.int 1, .int 2], .int 3]) (u := .int 3) (.inl rfl) (by decide) (fun u hu => ?_) (List.mem_cons_of_mem _ List.mem_cons_self) rfl
    simp only [List.mem_cons, List.not_mem_nil, or_false] at hu
    rcases hu with rfl | rfl
    · exact vwl_two (vw_int _ _) (vw_int _ _)
    · exact vi 3
theorem rd_tC {k R : Nat} {qs : List (Int × Int)} {O O' : Sto} {x1 x2 x4 x5 x6 x7 x8 x9 x10 x11 x12 : Option W} {S : WK} (h : Rt O k R qs 100 O') (q : ∀ O'', Kp k O O'' → S (.bl true) O'') : tC (outB S) [some (.cell k), x1, x2, some (.cell R), x4, x5, x6, x7, x8, x9, x10, x11, x12] O' := by
  have hl := h.len
  have hk := h.fd.lt
  refine ⟨_, rfl, sz_le (by show 1 ≤ 1000000; decide), sz_le (by show 3 ≤ 1000000; decide), sz_le (by show 2 ≤ 1000000; decide), sz_le (by show 2 ≤ 1000000; decide), sz_le (by show 2 ≤ 1000000; decide), sz_le (by show 2 ≤ 1000000; decide), sz_le (by show 0 ≤ 1000000; decide), sz_le (by show 1 ≤ 1000000; decide), sz_le (by show 2 ≤ 1000000; decide), sz_le (by show 11 ≤ 1000000; decide), ?_⟩
  have s1 : Sm O' ((O' ++ [Cell.lst [.int 1, .int 2]]) ++ [Cell.lst [W.tup [.int 1], .tup [.int 1, .int 2, .int 3], .cell O'.length, .tup [.bl true, .int 1], .tup [.int 1, .non], .tup [.str "0", .int 1], .int 5, .non, .tup [], .str "ab", .tup [.int 1, .tup [.int 2]]]]) := Sm.push.app _
  have hO1 : (O' ++ [Cell.lst [W.int 1, .int 2]]).length = O'.length + 1 := by rw [List.length_append]; rfl
  refine ⟨k, _, _, 99, rfl, by omega, .inl push_at, (by intro z; cases z), (by show 11 < 100000; decide), (h.sm s1).fd, fun b O1 hb kp1 fd1 => ?_⟩
  have h1 := (h.sm s1).draw kp1 fd1
  have hc1 : O1[O'.length]? = some (.lst [.int 1, .int 2]) := kp_fresh kp1 (by omega) (Sm.push _ _ push_at)
  have hb1 : BadW O1 b := bads hc1 hb
  refine ⟨_, rfl, _, rfl, .inr ⟨R, _, rfl, .inl h1.r, _, _, rfl, rfl, ?_⟩⟩
  rw [List.length_map]
  refine ⟨k, (qs.length : Int) + 1, 98, rfl, by omega, by omega, h1.fd, fun r O2 r0 r1 kp2 fd2 => ?_⟩
  have h2 := h1.draw kp2 fd2
  have hc2 : O2[O'.length]? = some (.lst [.int 1, .int 2]) := kp_fresh kp2 (by omega) hc1
  have hb2 : BadW O2 b := bads hc2 hb
  obtain ⟨m, rfl⟩ : ∃ m : Nat, r = (m : Int) := ⟨r.toNat, by omega⟩
  have hm : m ≤ qs.length := by omega
  refine ev_if (ev_or (ev_not (ev_test (ev_call (ev_cons1 (ev_put h2 hm fun O3 c hs3 hc3 => ?_))))))
  have hb3 := bad_sm hb2 hs3
  obtain ⟨p1, p2, p3⟩ := put_in (m := m) hl hb3
  refine ⟨_, rfl, no_of (.inr ⟨c, rfl, .inl hc3⟩) p1 p2 p3 hb3.2, fun O4 hs4 => ⟨_, rfl, ifF ?_⟩⟩
  have h4 := (h2.sm hs3).sm hs4
  refine ev_not (ev_test (ev_call (ev_cons1 (ev_CB (ev_cons1 (ev_put h4 hm fun O5 c hs5 hc5 => ?_))))))
  have hb5 := bad_sm (bad_sm hb3 hs4) hs5
  obtain ⟨p1, p2, p3⟩ := put_in (m := m) hl hb5
  refine .inr ⟨c, _, rfl, .inl hc5, ?_⟩
  refine ⟨_, rfl, no_of (.inl rfl) p1 p2 p3 hb5.2, fun O6 hs6 => ⟨_, rfl, ifF ?_⟩⟩
  have h6 := (h4.sm hs5).sm hs6
  refine ⟨_, rfl, sz_le (by show 2 ≤ 1000000; decide), sz_le (by show 1 ≤ 1000000; decide), _, .int 0, .int 1, _, rfl, .inl push_at, rfl, ?_⟩
  refine ⟨sz_le (by show 2 ≤ 1000000; decide), sz_le (by show 1 ≤ 1000000; decide), sz_le (by show 2 ≤ 1000000; decide), sz_le (by show 2 ≤ 1000000; decide), sz_le (by show 9 ≤ 1000000; decide), ?_⟩
  have a1 : Sm O6 (O6 ++ [Cell.lst [W.tup [.int 0, .int 1]]]) := Sm.push
  have hl6 := h6.fd.lt
  generalize hA : O6 ++ [Cell.lst [W.tup [.int 0, .int 1]]] = A
  rw [hA] at a1
  have a2 : Sm A (A ++ [Cell.dct [(Sum.inl 0, W.int 1)]]) := Sm.push
  have c2 : (A ++ [Cell.dct [(Sum.inl 0, W.int 1)]])[A.length]? = some (.dct [(Sum.inl 0, W.int 1)]) := push_at
  generalize hB : A ++ [Cell.dct [(Sum.inl 0, W.int 1)]] = B
  rw [hB] at a2 c2
  have a3 : Sm B (B ++ [Cell.lst [W.int 1]]) := Sm.push
  have c3 : (B ++ [Cell.lst [W.int 1]])[B.length]? = some (.lst [W.int 1]) := push_at
  generalize hC : B ++ [Cell.lst [W.int 1]] = C
  rw [hC] at a3 c3
  have lA := a1.len
  have lB := a2.len
  have lC := a3.len
  have h9 := ((h6.sm a1).sm a2).sm a3
  refine ⟨k, _, _, 97, rfl, by omega, .inl push_at, (by intro z; cases z), (by show 9 < 100000; decide), fd_sm h9.fd Sm.push, fun w O8 hw kp8 fd8 => ?_⟩
  have kp9 := h9.kp.trans (Kp.trans Sm.push.kp kp8)
  refine ⟨_, rfl, nots (kp_fresh kp8 (by omega) (Sm.push _ _ (a3 _ _ c2))) (kp_fresh kp8 (by omega) (Sm.push _ _ c3)) hw, fun O9 hs9 => q O9 (kp9.trans hs9.kp)⟩
theorem ev_next {D : DEnds} {δ : DS} {O : Sto} (h : D.nx δ O) : dNext D δ O := h
theorem ev_cons {w : DE} {wr : DA} {δ : DS} {O : Sto} {S : List W → Sto → Prop} (h : w δ O fun x O1 => wr δ O1 fun xs O2 => S (x :: xs) O2) : dCons w wr δ O S := h
def fW (f : Int × Int → Int × Int) : W → W
  | .tup [.int a, .int b] => pairW (f (a, b))
  | w => w
theorem fw_map (f : Int × Int → Int × Int) (qs : List (Int × Int)) : (qs.map pairW).map (fW f) = (qs.map f).map pairW := by
  rw [List.map_map, List.map_map]
  rfl
/-- [f(a, b) for a, b in rows] -/
theorem ev_pairs {k R : Nat} {qs : List (Int × Int)} {O' : Sto} {x1 x2 x4 x5 x6 x7 x8 x9 x10 x11 x12 : Option W} {S : WK} {we : DE} (f : Int × Int → Int × Int) (hr : O'[R]? = some (.lst (qs.map pairW))) (hl : qs.length ≤ 40)
    (hwe : ∀ (p : Int × Int) (O'' : Sto) (S1 : WK), S1 (pairW (f p)) O'' → we [some (.cell k), x1, x2, some (.cell R), x4, x5, x6, x7, x8, x9, x10, some (.int p.1), some (.int p.2)] O'' S1)
    (q : ∀ O'', Sm O' O'' → O''[O'.length]? = some (.lst ((qs.map f).map pairW)) → S (.cell O'.length) O'') : dLc (diL (dVar 3)) (dgTup 2 (dgCons (dgName 11) (dgCons (dgName 12) dgNil))) dYes we [11, 12] [some (.cell k), x1, x2, some (.cell R), x4, x5, x6, x7, x8, x9, x10, x11, x12] O' S := by
  refine ev_lcL (f := fW f) rfl (.inl hr) (by rw [List.length_map]; omega) (fun i z hz O2 hs S1 h => ?_) fun O2 hs hc => q O2 hs ?_
  · rw [List.getElem?_map] at hz
    cases e : qs[i]? with
    | none => rw [e] at hz; cases hz
    | some p =>
      rw [e] at hz
      cases hz
      exact ⟨_, rfl, rfl, _, _, rfl, _, _, rfl, rfl, hwe p O2 S1 (h O2 Sm.refl)⟩
  · rw [hc, fw_map]
/-! ### rows are data -/
def pd (p : Int × Int) : PyData := .tuple [.int p.1, .int p.2]
theorem dws_pairs (O : Sto) : ∀ qs : List (Int × Int), DWs O (qs.map pairW) (qs.map pd)
  | [] => .nil
  | p :: qs => .cons (.tup (.cons (.int p.1) (.cons (.int p.2) .nil))) (dws_pairs O qs)
theorem plain_pairs (qs : List (Int × Int)) : (PyData.list (qs.map pd)).plain = true := by
  unfold PyData.plain
  induction qs with
  | nil => rfl
  | cons p qs ih =>
    rw [List.map_cons]
    unfold PyData.plainAll
    rw [ih]
    rfl
theorem depth_pairs (qs : List (Int × Int)) : (PyData.list (qs.map pd)).depth ≤ 10 := by
  have h : PyData.depthAll (qs.map pd) ≤ 9 := by
    induction qs with
    | nil =>
      rw [List.map_nil]
      unfold PyData.depthAll
      decide
    | cons p qs ih =>
      rw [List.map_cons]
      unfold PyData.depthAll
      have : (pd p).depth ≤ 5 := by
        unfold pd PyData.depth PyData.depthAll PyData.depth PyData.depthAll PyData.depth PyData.depthAll
        decide
      omega
  unfold PyData.depth
  omega
theorem rd_tB {k R C : Nat} {qs : List (Int × Int)} {O O' : Sto} {x1 x2 x4 x5 x6 x7 x11 x12 : Option W} {S : WK} (h : Rt O k R qs 300 O') (hC : O'[C]? = some (.lst (qs.map pairW))) (nC : C ≠ k) (q : ∀ O'', Kp k O O'' → S (.bl true) O'') :
    tB (outB S) [some (.cell k), x1, x2, some (.cell R), x4, x5, x6, x7, some (.cell C), some (.int (Cross.cross qs : Nat)), some (.int (Cross.apart qs : Nat)), x11, x12] O' := by
  have hl := h.len
  refine ⟨_, rfl, _, _, rfl, rfl, (by show CPow 10 20; unfold CPow; decide), k, _, 299, rfl, by decide, by decide, h.fd, fun d O1 d0 d1 kp1 fd1 => ?_⟩
  have h1 := h.draw kp1 fd1
  have c1 := kp_fresh kp1 nC hC
  dsimp only
  refine ev_if (ev_or (ev_not (ev_test (ev_call ?_))))
  refine ⟨_, rfl, _, qs, rfl, ⟨.inr ⟨R, rfl, .inl h1.r⟩, hl⟩, fun O2 hs2 => ⟨_, rfl, _, _, rfl, _, rfl, ?_⟩⟩
  rw [decide_eq_true rfl]
  refine ifF ?_
  have h2 := h1.sm hs2
  have c2 := hs2 _ _ c1
  refine ev_or (ev_not (ev_test (ev_call ?_)))
  refine ⟨_, rfl, .inr ⟨R, _, rfl, .inl h2.r, _, qs, rfl, ⟨.inl rfl, hl⟩, fun O3 hs3 => ⟨_, rfl, _, _, rfl, _, rfl, ?_⟩⟩⟩
  rw [decide_eq_true rfl]
  refine ifF ?_
  have h3 := h2.sm hs3
  have c3 := hs3 _ _ c2
  refine ev_not (ev_test (ev_call ?_))
  refine ⟨_, rfl, _, rfl, k, R, 200, qs, rfl, h3.nr, .inl h3.r, hl, h3.fd.mono (by decide), fun m us O4 hp kp4 fd4 hm => ⟨_, us, rfl, ⟨.inr ⟨m, rfl, hm⟩, by rw [hp.length_eq]; exact hl⟩, fun O5 hs5 => ⟨_, rfl, _, _, rfl, _, rfl, ?_⟩⟩⟩
  rw [Cross.cross_perm hp, decide_eq_true rfl]
  refine ifF (ev_next ?_)
  have h5 := (h3.draw kp4 fd4).sm hs5
  have c5 := hs5 _ _ (kp_fresh kp4 nC c3)
  dsimp only
  refine ev_if (ev_or (ev_test ?_))
  refine ⟨_, rfl, _, rfl, .list (qs.map pd), .list (qs.map pd), .cell (.inl h5.r) (dws_pairs _ qs), .cell (.inl c5) (dws_pairs _ qs), plain_pairs qs, plain_pairs qs, by have := depth_pairs qs; omega, _, rfl, ?_⟩
  rw [SeqAt.eqv_refl_plain _ (plain_pairs qs)]
  refine ifF ?_
  refine ev_or (ev_test (ev_op (ev_call (ev_cons1 (ev_pairs (fun p => (p.2, p.1)) h5.r hl (fun p O2 S1 q1 => ⟨_, rfl, _, rfl, sz_le (by show 2 ≤ 1000000; decide), q1⟩) fun O6 hs6 hc6 => ?_)))))
  refine ⟨_, qs.map fun p => (p.2, p.1), rfl, ⟨.inr ⟨_, rfl, .inl hc6⟩, by rw [List.length_map]; exact hl⟩, fun O7 hs7 => ⟨_, rfl, _, rfl, _, rfl, ?_⟩⟩
  rw [Cross.cross_swap, decide_eq_true rfl]
  refine ifF ?_
  have h7 := (h5.sm hs6).sm hs7
  refine ev_test (ev_op (ev_call (ev_cons1 (ev_pairs (fun p => (p.1 + d, p.2 - d)) h7.r hl (fun p O2 S1 q1 => ⟨_, rfl, _, rfl, _, _, rfl, rfl, _, rfl, _, rfl, _, _, rfl, rfl, sz_le (by show 2 ≤ 1000000; decide), q1⟩) fun O8 hs8 hc8 => ?_))))
  refine ⟨_, qs.map fun p => (p.1 + d, p.2 - d), rfl, ⟨.inr ⟨_, rfl, .inl hc8⟩, by rw [List.length_map]; exact hl⟩, fun O9 hs9 => ⟨_, rfl, _, rfl, _, rfl, ?_⟩⟩
  rw [Cross.cross_move, decide_eq_true rfl]
  refine ifF (ev_next ?_)
  have h9 := (h7.sm hs8).sm hs9
  dsimp only
  refine ev_if (ev_not (ev_test (ev_call (ev_cons (ev_call (ev_cons1 (ev_pairs (fun p => (p.1, 0 - p.2)) h9.r hl (fun p O2 S1 q1 => ⟨_, rfl, _, rfl, _, _, rfl, rfl, sz_le (by show 2 ≤ 1000000; decide), q1⟩) fun O10 hs10 hc10 => ?_)))))))
  refine ⟨_, qs.map fun p => (p.1, 0 - p.2), rfl, ⟨.inr ⟨_, rfl, .inl hc10⟩, by rw [List.length_map]; exact hl⟩, fun O11 hs11 => ⟨_, rfl, _, rfl, _, _, rfl, rfl, _, _, rfl, _, rfl, ?_⟩⟩
  have e := Cross.cross_neg qs
  rw [decide_eq_true (show ((Cross.cross (qs.map fun p => (p.1, 0 - p.2)) : Nat) : Int) = (Cross.apart qs : Nat) - (Cross.cross qs : Nat) by omega)]
  refine ifF ?_
  exact rd_tC (((h9.sm hs10).sm hs11).mono (by decide)) q
/-- the rows so far -/
structure Rw (O : Sto) (k L : Nat) (n t : Nat) (O' : Sto) : Prop where
  ex : ∃ ps : List (Int × Int), ps.length ≤ 2 * t ∧ O'[L]? = some (.lst (ps.map pairW))
  kp : Kp k O O'
  fd : Fd O' k n
  nl : L ≠ k
  old : O.length ≤ L
theorem rd_right (ws : List W) (O : Sto) (S : WK) (h : sp_right ws O S) : d_law_right (outB S) (startD n_law_right ws) O := by
  obtain ⟨k, rfl, hf, q⟩ := h
  have hk := hf.lt
  refine ⟨_, rfl, k, 3, 999999, rfl, by decide, by decide, hf, fun r O1 r0 r1 kp1 fd1 => ?_⟩
  refine ⟨sz_le (by show 0 ≤ 1000000; decide), _, _, rfl, rfl, (by show CPow 10 59; unfold CPow; decide), sz_le (by show 3 ≤ 1000000; decide), _, rfl, ?_⟩
  obtain ⟨M, hM, m0, m1⟩ : ∃ M : Int, atI [W.int 4, .int 12, .int ((10 : Int) ^ (59 : Int).toNat)] r = some (.int M) ∧ 3 ≤ M ∧ M < 2 ^ 300 := by
    have : r = 0 ∨ r = 1 ∨ r = 2 := by omega
    rcases this with rfl | rfl | rfl
    · exact ⟨4, at_nat (i := 0) rfl, by decide, by decide⟩
    · exact ⟨12, at_nat (i := 1) rfl, by decide, by decide⟩
    · exact ⟨_, at_nat (i := 2) rfl, by decide, by decide⟩
  refine ⟨_, _, r, .int M, rfl, rfl, .inl push_at, hM, _, _, rfl, ?_⟩
  have b1 : Sm O1 (O1 ++ [Cell.lst []]) := Sm.push
  generalize hA : O1 ++ [Cell.lst []] = A at *
  have cA : A[O1.length]? = some (.lst []) := by rw [← hA]; exact push_at
  refine ⟨_, rfl, k, 21, 999998, rfl, by decide, by decide, (fd_sm fd1 b1).push, fun c O2 c0 c1 kp2 fd2 => ⟨c, rfl, by omega, by omega, ?_⟩⟩
  have l1 := kp1.len
  have cA2 : O2[O1.length]? = some (.lst []) := kp_fresh kp2 (by omega) (Sm.push _ _ cA)
  have kpA : Kp k O O2 := kp1.trans (Kp.trans b1.kp (Kp.trans Sm.push.kp kp2))
  refine for_up (lo := 0) (hi := c.toNat) (fun t δ O' => t ≤ 20 ∧ (∃ x2, δ = [some (.cell k), some (.int r), x2, some (.cell O1.length), none, none, none, some (.int M), none, none, none, none, none]) ∧ Rw O k O1.length (1000 - 4 * t) t O') rfl (by omega) (Nat.zero_le _) ⟨Nat.zero_le _, ⟨_, rfl⟩, ⟨⟨[], Nat.zero_le _, cA2⟩, kpA, fd2.mono (by decide), by omega, l1⟩⟩ ?_ ?_
  · rintro t δ O' _ ht ⟨ht20, ⟨x2, rfl⟩, ⟨⟨ps, hps, cL⟩, kp, fd, nl, old⟩⟩
    have ht20 : t < 20 := by omega
    obtain ⟨n, hn⟩ : ∃ n, 1000 - 4 * t = n + 4 := ⟨996 - 4 * t, by omega⟩
    rw [hn] at fd
    refine ⟨_, rfl, ⟨_, _, rfl, .inl cL⟩, ?_⟩
    refine ⟨_, rfl, _, rfl, k, M, n + 3, rfl, by omega, m1, fd, fun a Oa a0 a1 kpa fda => ?_⟩
    refine ⟨_, rfl, _, _, rfl, rfl, ⟨by decide, by decide⟩, _, _, rfl, rfl, ?_⟩
    refine ⟨_, rfl, _, rfl, k, M, n + 2, rfl, by omega, m1, fda, fun b Ob b0 b1' kpb fdb => ?_⟩
    refine ⟨_, rfl, _, _, rfl, rfl, ⟨by decide, by decide⟩, _, _, rfl, rfl, sz_le (by show 2 ≤ 1000000; decide), ?_⟩
    have cb := kp_fresh kpb nl (kp_fresh kpa nl cL)
    refine ⟨O1.length, ps.map pairW, _, rfl, rfl, cb, by rw [List.length_map]; exact sz_lt (by omega), ?_⟩
    have eset : ps.map pairW ++ [W.tup [.int (a - M / 3), .int (b - M / 3)]] = (ps ++ [(a - M / 3, b - M / 3)]).map pairW := by rw [List.map_append]; rfl
    rw [eset]
    generalize hps2 : ps ++ [(a - M / 3, b - M / 3)] = ps2
    have hl2 : ps2.length = ps.length + 1 := by rw [← hps2, List.length_append]; rfl
    have ck : (Ob.set O1.length (.lst (ps2.map pairW)))[O1.length]? = some (.lst (ps2.map pairW)) := List.getElem?_set_self (List.getElem?_eq_some_iff.mp cb).1
    have kpc : Kp k O (Ob.set O1.length (.lst (ps2.map pairW))) := by
      have k2 := (kp.trans kpa).trans kpb
      refine ⟨by rw [List.length_set]; exact k2.len, fun i d ni hd => ?_⟩
      have hli := (List.getElem?_eq_some_iff.mp hd).1
      rw [List.getElem?_set_ne (by omega)]
      exact k2.at_ i d ni hd
    have fdc : Fd (Ob.set O1.length (.lst (ps2.map pairW))) k (n + 2) := fdb.set nl
    generalize hB : Ob.set O1.length (.lst (ps2.map pairW)) = B at *
    dsimp only
    refine ev_if (ev_test ?_)
    refine ⟨_, rfl, k, 5, n + 1, rfl, by decide, by decide, fdc, fun z Oc z0 z1 kpz fdz => ⟨_, rfl, _, rfl, ?_⟩⟩
    have cz := kp_fresh kpz nl ck
    by_cases e : z = 0
    · rw [decide_eq_true e]
      refine ifT ⟨_, rfl, ⟨_, _, rfl, .inl cz⟩, _, rfl, _, rfl, k, _, ps2.map pairW, n, rfl, nl, .inl cz, ?_, by rw [List.length_map]; omega, fdz, fun w Od hw kpd fdd => ?_⟩
      · intro e2
        have := congrArg List.length e2
        rw [List.length_map, hl2] at this
        cases this
      · obtain ⟨p, hp, rfl⟩ := List.mem_map.mp hw
        have cd := kp_fresh kpd nl cz
        refine ⟨O1.length, ps2.map pairW, _, rfl, rfl, cd, by rw [List.length_map]; exact sz_lt (by omega), by omega, ⟨_, rfl⟩, ⟨⟨ps2 ++ [p], ?_, ?_⟩, ?_, ?_, nl, old⟩⟩
        · rw [List.length_append]
          show ps2.length + 1 ≤ _
          omega
        · rw [List.getElem?_set_self (List.getElem?_eq_some_iff.mp cd).1, List.map_append]
          rfl
        · have k2 := (kpc.trans kpz).trans kpd
          refine ⟨by rw [List.length_set]; exact k2.len, fun i d ni hd => ?_⟩
          have hli := (List.getElem?_eq_some_iff.mp hd).1
          rw [List.getElem?_set_ne (by omega)]
          exact k2.at_ i d ni hd
        · exact (fdd.mono (by omega)).set nl
    · rw [decide_eq_false e]
      refine ifF ⟨by omega, ⟨_, rfl⟩, ⟨⟨ps2, by omega, cz⟩, kpc.trans kpz, fdz.mono (by omega), nl, old⟩⟩
  · rintro δ O' ⟨ht20, ⟨x2, rfl⟩, ⟨⟨ps, hps, cL⟩, kp, fd, nl, old⟩⟩
    show tA (outB S) _ O'
    refine ⟨_, rfl, 20, rfl, O1.length, _, rfl, .inl cL, ?_⟩
    rw [show ((20 : Int)) = ((20 : Nat) : Int) from rfl, cut_upto pairW ps 20]
    have hl : (ps.take 20).length ≤ 40 := by rw [List.length_take]; omega
    generalize ps.take 20 = qs at *
    have s1 : Sm O' (O' ++ [Cell.lst (qs.map pairW)]) := Sm.push
    have cR : (O' ++ [Cell.lst (qs.map pairW)])[O'.length]? = some (.lst (qs.map pairW)) := push_at
    generalize hB : O' ++ [Cell.lst (qs.map pairW)] = B at *
    have lO := kp.len
    have lB := s1.len
    refine ⟨_, rfl, O'.length, qs, rfl, .inl cR, hl, _, rfl, .inr ⟨_, _, rfl, .inl cR, sz_le (by show 2 ≤ 1000000; decide), _, rfl, rfl, _, _, rfl, ⟨_, rfl, rfl, _, _, rfl, _, _, rfl, rfl, _, _, rfl, rfl, ?_⟩⟩⟩
    refine rd_tB (R := O'.length) (C := B.length) (qs := qs) (O := O) ⟨kp.trans (Kp.trans s1.kp Sm.push.kp), (fd_sm (fd_sm fd s1) Sm.push).mono (by omega), Sm.push _ _ cR, by omega, hl⟩ push_at (by omega) q
theorem rd_law (ws : List W) (O : Sto) (S : WK) (h : sp_law ws O S) : dlaw (outB S) (startD nlaw ws) O := by
  obtain ⟨ns, rfl, hO, hb, hn, fin⟩ := h
  have h0 : O[0]? = some (.rol (ns.map W.int)) := by rw [hO]; rfl
  refine ⟨_, rfl, .inr ⟨0, _, rfl, .inr h0, _, _, rfl, _, _, rfl, ?_⟩⟩
  have hlen : ((ns.map W.int).length : Int) = (ns.length : Int) := by rw [List.length_map]
  rw [hlen]
  obtain ⟨j, hj, j1, j2⟩ : ∃ j : Nat, (if (if (6 : Int) < (ns.length : Int) then 6 else (ns.length : Int)) > 1 then (if (6 : Int) < (ns.length : Int) then 6 else (ns.length : Int)) else 1) = (j : Int) ∧ 1 ≤ j ∧ j ≤ 6 := by
    by_cases e : (6 : Int) < (ns.length : Int)
    · exact ⟨6, by rw [if_pos e, if_pos (by decide)]; rfl, by decide, by decide⟩
    · rw [if_neg e]
      by_cases e2 : (ns.length : Int) > 1
      · exact ⟨ns.length, by rw [if_pos e2], by omega, by omega⟩
      · exact ⟨1, by rw [if_neg e2]; rfl, by decide, by decide⟩
  rw [hj]
  refine ⟨_, rfl, by omega, by omega, ?_⟩
  refine for_up (lo := 0) (hi := j) (fun t δ O1 => (∃ x1, δ = [some (.cell 0), x1]) ∧ O1[0]? = some (.rol (ns.map W.int))) rfl (by omega) (Nat.zero_le _) ⟨⟨_, rfl⟩, h0⟩ ?_ ?_
  · rintro t δ O1 _ ht ⟨⟨x1, rfl⟩, hr⟩
    refine ev_if (ev_not (ev_test (ev_call (ev_cons1 (ev_call ?_)))))
    refine ⟨_, rfl, _, rfl, 0, ns, t, rfl, .inr hr, hb, by omega, by omega, by omega, fun m O2 hs hm hfd => ?_⟩
    have lt := (List.getElem?_eq_some_iff.mp hr).1
    refine ⟨m, rfl, hfd, fun O3 kp => ⟨_, rfl, ifF ⟨⟨_, rfl⟩, kp_fresh kp (by omega) (hs _ _ hr)⟩⟩⟩
  · rintro δ O1 ⟨⟨x1, rfl⟩, hr⟩
    dsimp only
    refine ev_ret (ev_and (ev_op ?_))
    refine ⟨sz_le (by show 0 ≤ 1000000; decide), .cell O1.length, [], rfl, ⟨.inr ⟨_, rfl, .inl push_at⟩, by decide⟩, fun O2 hs => ⟨_, rfl, _, rfl, ifT ?_⟩⟩
    refine ev_op ?_
    exact ⟨sz_le (by show 0 ≤ 1000000; decide), .tup [], [], rfl, ⟨.inl rfl, by decide⟩, fun O3 hs3 => ⟨_, rfl, fin O3⟩⟩
end K28

set_option Elab.async false
set_option linter.all false
set_option maxRecDepth 100000
set_option maxHeartbeats 0
/-! k28: the head, the end. -/
namespace K28
open PySem PySem.Spec PyProof.Rows L2 Dm
def xs (K : PySem.W.Frag) : Bool := noLst K && (xc0B K (He.ga K "TongueError") && (xc0B K (He.ga K "BadLinks") && (xc0B K (He.ga K "TooMany") && (decide (PySem.W.exmOne K (.ref (He.ga K "BadLinks")) (.ref (He.ga K "BadLinks")) = some true) &&
  (decide (PySem.W.kitOne K (.ref (He.ga K "BadLinks")) (.ref (He.ga K "TongueError")) = some true) && decide (PySem.W.kitOne K (.ref (He.ga K "BadLinks")) (.ref (He.ga K "TooMany")) = some false))))))
def eis_integer : He.DefD := ⟨("is_integer", none), "is_integer", "is_integer", defArgs sis_integer, defBody sis_integer, defScope sis_integer, [], []⟩
def eis_tuple : He.DefD := ⟨("is_tuple", none), "is_tuple", "is_tuple", defArgs sis_tuple, defBody sis_tuple, defScope sis_tuple, [], []⟩
def egreater_ones : He.DefD := ⟨("greater_ones", none), "greater_ones", "greater_ones", defArgs sgreater_ones, defBody sgreater_ones, defScope sgreater_ones, [], []⟩
def eturned_round : He.DefD := ⟨("turned_round", none), "turned_round", "turned_round", defArgs sturned_round, defBody sturned_round, defScope sturned_round, [], []⟩
def eis_link : He.DefD := ⟨("is_link", none), "is_link", "is_link", defArgs sis_link, defBody sis_link, defScope sis_link, [], []⟩
def ecrossings : He.DefD := ⟨("crossings", none), "crossings", "crossings", defArgs scrossings, defBody scrossings, defScope scrossings, [], []⟩
def e_law_feed : He.DefD := ⟨("_law_feed", none), "_law_feed", "_law_feed", defArgs s_law_feed, defBody s_law_feed, defScope s_law_feed, [], []⟩
def e_law_draw : He.DefD := ⟨("_law_draw", none), "_law_draw", "_law_draw", defArgs s_law_draw, defBody s_law_draw, defScope s_law_draw, [], []⟩
def e_law_one : He.DefD := ⟨("_law_one", none), "_law_one", "_law_one", defArgs s_law_one, defBody s_law_one, defScope s_law_one, [], []⟩
def e_law_mixed : He.DefD := ⟨("_law_mixed", none), "_law_mixed", "_law_mixed", defArgs s_law_mixed, defBody s_law_mixed, defScope s_law_mixed, [], []⟩
def e_law_is : He.DefD := ⟨("_law_is", none), "_law_is", "_law_is", defArgs s_law_is, defBody s_law_is, defScope s_law_is, [], []⟩
def e_law_crossed : He.DefD := ⟨("_law_crossed", none), "_law_crossed", "_law_crossed", defArgs s_law_crossed, defBody s_law_crossed, defScope s_law_crossed, [], []⟩
def e_law_refused : He.DefD := ⟨("_law_refused", none), "_law_refused", "_law_refused", defArgs s_law_refused, defBody s_law_refused, defScope s_law_refused, [], []⟩
def e_law_right : He.DefD := ⟨("_law_right", none), "_law_right", "_law_right", defArgs s_law_right, defBody s_law_right, defScope s_law_right, [], []⟩
def elaw : He.DefD := ⟨("law", none), "law", "law", defArgs slaw, defBody slaw, defScope slaw, [], []⟩
def fnD : List He.DefD := [eis_integer, eis_tuple, egreater_ones, eturned_round, eis_link, ecrossings, e_law_feed, e_law_draw, e_law_one, e_law_mixed, e_law_is, e_law_crossed, e_law_refused, e_law_right, elaw]
def fa : List He.Fa := [.glo "is_integer", .glo "is_tuple", .glo "greater_ones", .glo "turned_round", .glo "is_link", .glo "crossings", .glo "_law_feed", .glo "_law_draw", .glo "_law_one", .glo "_law_mixed", .glo "_law_is", .glo "_law_crossed", .glo "_law_refused", .glo "_law_right", .glo "law", .glo "TongueError", .glo "BadLinks", .glo "TooMany", .free "isinstance", .free "int", .free "bool", .free "tuple", .free "len", .free "sorted", .free "all", .free "list", .free "sum", .free "max", .free "range", .free "dict", .free "min"]
abbrev R : PySem.W.OpenRow := PySem.W.OpenLaw.row PySem.Challenge.rw_pairedtongues_k28_crossings_counted
abbrev hk : PySem.W.Hook := hookX xs 5 fa fnD
def ob (s : PySem.W.SharedT) : Bool × He.AlD := obsXG xs 5 fa fnD (HandSHeadRun.getT s)
theorem ob_eq (s : PySem.W.SharedT) : ob s = hk.obs s.abs := obsXG_eq (HandSHeadRun.getT_eq s)
def loose : List Str := ["__name__", "is_integer", "is_tuple", "TongueError", "BadLinks", "TooMany", "turned_round", "greater_ones", "crossings", "is_link", "_law_feed", "_law_draw", "_law_one", "_law_mixed", "_law_is", "_law_crossed", "_law_refused", "_law_right"]
theorem run (w : World) : HandSHeadRun.RunEq R (PySem.W.view R.prog [22]) hk ob 9000 loose w := by
  intro os
  kernel_rfl
theorem FnG_none {P : Program} {w : World} {K : PySem.W.Frag} {mg : Str → Option Value} {base : Heap} {k : Nat} {f : Addr} {fd : FuncData} {ps : List Str} {sp : SpD} (h : ∀ ws O S, ¬ sp ws O S) : FnG P w K mg base k f fd ps sp :=
  ⟨fun ws O S q => absurd q (h ws O S), fun A outer s H args us vs Q hr e0 hb hv ⟨_, _, _, _, _, _, _, q, _⟩ => absurd q (h _ _ _)⟩
theorem facts {P : Program} {w : World} {K : PySem.W.Frag} {h : Heap} {mg : Str → Option Value} {f : Addr} (X : K.In h) (G : h.Ns mainGlobals mg) (hfa : mg ("law" : Str) = some (.ref f)) (c : SaysX xs fa fnD K) :
    noLst K = true ∧ ∃ fd : FuncData, (∀ (s : Shared) (v : Value), BindsTo s fd ⟨[v], []⟩ [("_law_script", v)]) ∧ ∀ base : Heap, K.In base → base.Ns mainGlobals mg → FnG P w K mg base 53 f fd ["_law_script"] sp_law := by
  obtain ⟨fdis_integer, Fis_integer⟩ := c.d.def_ 0 (d := eis_integer) rfl
  obtain ⟨fdis_tuple, Fis_tuple⟩ := c.d.def_ 1 (d := eis_tuple) rfl
  obtain ⟨fdgreater_ones, Fgreater_ones⟩ := c.d.def_ 2 (d := egreater_ones) rfl
  obtain ⟨fdturned_round, Fturned_round⟩ := c.d.def_ 3 (d := eturned_round) rfl
  obtain ⟨fdis_link, Fis_link⟩ := c.d.def_ 4 (d := eis_link) rfl
  obtain ⟨fdcrossings, Fcrossings⟩ := c.d.def_ 5 (d := ecrossings) rfl
  obtain ⟨fd_law_feed, F_law_feed⟩ := c.d.def_ 6 (d := e_law_feed) rfl
  obtain ⟨fd_law_draw, F_law_draw⟩ := c.d.def_ 7 (d := e_law_draw) rfl
  obtain ⟨fd_law_one, F_law_one⟩ := c.d.def_ 8 (d := e_law_one) rfl
  obtain ⟨fd_law_mixed, F_law_mixed⟩ := c.d.def_ 9 (d := e_law_mixed) rfl
  obtain ⟨fd_law_is, F_law_is⟩ := c.d.def_ 10 (d := e_law_is) rfl
  obtain ⟨fd_law_crossed, F_law_crossed⟩ := c.d.def_ 11 (d := e_law_crossed) rfl
  obtain ⟨fd_law_refused, F_law_refused⟩ := c.d.def_ 12 (d := e_law_refused) rfl
  obtain ⟨fd_law_right, F_law_right⟩ := c.d.def_ 13 (d := e_law_right) rfl
  obtain ⟨fdlaw, Flaw⟩ := c.d.def_ 14 (d := elaw) rfl
  have e := hfa.symm.trans (He.glo_ok X G (c.d.fact 14 (f := .glo "law") rfl))
  cases e
  have b := FunD.bindsA (ps := ["_law_script"]) Flaw fun _ _ _ _ _ _ us hl => match us, hl with | [_], _ => rfl
  have h0 := c.own
  obtain ⟨h1, h0⟩ := He.ba h0
  obtain ⟨h2, h0⟩ := He.ba h0
  obtain ⟨h3, h0⟩ := He.ba h0
  obtain ⟨h4, h0⟩ := He.ba h0
  obtain ⟨h5, h0⟩ := He.ba h0
  obtain ⟨h6, h7⟩ := He.ba h0
  have TTongueError := xc0B_ok h2
  have TBadLinks := xc0B_ok h3
  have TTooMany := xc0B_ok h4
  have cls : Cls K := ⟨TBadLinks.toXC, of_decide_eq_true h5, of_decide_eq_true h6, of_decide_eq_true h7⟩
  have gTongueError := He.glo_ok X G (c.d.fact 15 (f := .glo "TongueError") rfl)
  have gBadLinks := He.glo_ok X G (c.d.fact 16 (f := .glo "BadLinks") rfl)
  have gTooMany := He.glo_ok X G (c.d.fact 17 (f := .glo "TooMany") rfl)
  refine ⟨h1, fdlaw, fun s v => b s [v] rfl, fun base _ _ => ?_⟩
  have bis_integer : Binds K fdis_integer ["thing"] [] := FunD.bindsN Fis_integer fun _ _ _ _ _ _ us hl => match us, hl with | [_], _ => rfl
  have gis_integer := He.glo_ok X G (c.d.fact 0 (f := .glo "is_integer") rfl)
  have bis_tuple : Binds K fdis_tuple ["thing", "least", "most"] [] := FunD.bindsN Fis_tuple fun _ _ _ _ _ _ us hl => match us, hl with | [_, _, _], _ => rfl
  have gis_tuple := He.glo_ok X G (c.d.fact 1 (f := .glo "is_tuple") rfl)
  have bgreater_ones : Binds K fdgreater_ones ["first", "second"] [] := FunD.bindsN Fgreater_ones fun _ _ _ _ _ _ us hl => match us, hl with | [_, _], _ => rfl
  have ggreater_ones := He.glo_ok X G (c.d.fact 2 (f := .glo "greater_ones") rfl)
  have bturned_round : Binds K fdturned_round ["numbers"] [] := FunD.bindsN Fturned_round fun _ _ _ _ _ _ us hl => match us, hl with | [_], _ => rfl
  have gturned_round := He.glo_ok X G (c.d.fact 3 (f := .glo "turned_round") rfl)
  have bis_link : Binds K fdis_link ["thing"] [] := FunD.bindsN Fis_link fun _ _ _ _ _ _ us hl => match us, hl with | [_], _ => rfl
  have gis_link := He.glo_ok X G (c.d.fact 4 (f := .glo "is_link") rfl)
  have bcrossings : Binds K fdcrossings ["links"] [] := FunD.bindsN Fcrossings fun _ _ _ _ _ _ us hl => match us, hl with | [_], _ => rfl
  have gcrossings := He.glo_ok X G (c.d.fact 5 (f := .glo "crossings") rfl)
  have b_law_feed : Binds K fd_law_feed ["_law_script", "_law_k"] [] := FunD.bindsN F_law_feed fun _ _ _ _ _ _ us hl => match us, hl with | [_, _], _ => rfl
  have g_law_feed := He.glo_ok X G (c.d.fact 6 (f := .glo "_law_feed") rfl)
  have b_law_draw : Binds K fd_law_draw ["_law_feed_here", "_law_many"] [] := FunD.bindsN F_law_draw fun _ _ _ _ _ _ us hl => match us, hl with | [_, _], _ => rfl
  have g_law_draw := He.glo_ok X G (c.d.fact 7 (f := .glo "_law_draw") rfl)
  have b_law_one : Binds K fd_law_one ["_law_feed_here", "_law_things"] [] := FunD.bindsN F_law_one fun _ _ _ _ _ _ us hl => match us, hl with | [_, _], _ => rfl
  have g_law_one := He.glo_ok X G (c.d.fact 8 (f := .glo "_law_one") rfl)
  have b_law_mixed : Binds K fd_law_mixed ["_law_feed_here", "_law_things"] [] := FunD.bindsN F_law_mixed fun _ _ _ _ _ _ us hl => match us, hl with | [_, _], _ => rfl
  have g_law_mixed := He.glo_ok X G (c.d.fact 9 (f := .glo "_law_mixed") rfl)
  have b_law_is : Binds K fd_law_is ["_law_actual", "_law_due"] [] := FunD.bindsN F_law_is fun _ _ _ _ _ _ us hl => match us, hl with | [_, _], _ => rfl
  have g_law_is := He.glo_ok X G (c.d.fact 10 (f := .glo "_law_is") rfl)
  have b_law_crossed : Binds K fd_law_crossed ["_law_rows"] [] := FunD.bindsN F_law_crossed fun _ _ _ _ _ _ us hl => match us, hl with | [_], _ => rfl
  have g_law_crossed := He.glo_ok X G (c.d.fact 11 (f := .glo "_law_crossed") rfl)
  have b_law_refused : Binds K fd_law_refused ["_law_thing"] [] := FunD.bindsN F_law_refused fun _ _ _ _ _ _ us hl => match us, hl with | [_], _ => rfl
  have g_law_refused := He.glo_ok X G (c.d.fact 12 (f := .glo "_law_refused") rfl)
  have b_law_right : Binds K fd_law_right ["_law_feed_here"] [] := FunD.bindsN F_law_right fun _ _ _ _ _ _ us hl => match us, hl with | [_], _ => rfl
  have g_law_right := He.glo_ok X G (c.d.fact 13 (f := .glo "_law_right") rfl)
  have z_isinstance := He.free_ok X G (c.d.fact 18 (f := .free "isinstance") rfl)
  have z_int := He.free_ok X G (c.d.fact 19 (f := .free "int") rfl)
  have z_bool := He.free_ok X G (c.d.fact 20 (f := .free "bool") rfl)
  have z_tuple := He.free_ok X G (c.d.fact 21 (f := .free "tuple") rfl)
  have z_len := He.free_ok X G (c.d.fact 22 (f := .free "len") rfl)
  have z_sorted := He.free_ok X G (c.d.fact 23 (f := .free "sorted") rfl)
  have z_all := He.free_ok X G (c.d.fact 24 (f := .free "all") rfl)
  have z_list := He.free_ok X G (c.d.fact 25 (f := .free "list") rfl)
  have z_sum := He.free_ok X G (c.d.fact 26 (f := .free "sum") rfl)
  have z_max := He.free_ok X G (c.d.fact 27 (f := .free "max") rfl)
  have z_range := He.free_ok X G (c.d.fact 28 (f := .free "range") rfl)
  have z_dict := He.free_ok X G (c.d.fact 29 (f := .free "dict") rfl)
  have z_min := He.free_ok X G (c.d.fact 30 (f := .free "min") rfl)
  have Gis_integer := okis_integer (P := P) (w := w) (mg := mg) (base := base) Fis_integer z_isinstance z_int z_bool (fun ws O S h => by obtain ⟨w, rfl, _⟩ := h; rfl) Dm.rd_is_integer
  have Gis_tuple := okis_tuple (P := P) (w := w) (mg := mg) (base := base) Fis_tuple z_isinstance z_tuple z_len (fun ws O S h => by obtain ⟨w, a, b, rfl, _⟩ := h; rfl) Dm.rd_is_tuple
  have Ggreater_ones := okgreater_ones (P := P) (w := w) (mg := mg) (base := base) Fgreater_ones z_len (fun ws O S h => by obtain ⟨j, k, a, b, rfl, _⟩ := h; rfl) rd_greater
  have GT : ∀ n, FnG P w K mg base (n + 2) (He.fAd K eturned_round.at_) fdturned_round ["numbers"] (sp_tr n) := by
    intro n
    induction n with
    | zero =>
      refine FnG_none fun ws O S h => ?_
      obtain ⟨k, ns, _, _, h1, _⟩ := h
      omega
    | succ n ih => exact okturned_round n Fturned_round z_len z_sorted Ggreater_ones ggreater_ones Fgreater_ones.kp bgreater_ones ih gturned_round Fturned_round.kp bturned_round (fun ws O S h => by obtain ⟨k, ns, rfl, _⟩ := h; rfl) (rd_tr n)
  have Gturned_round := GT 43
  have Gis_link := okis_link (P := P) (w := w) (mg := mg) (base := base) Fis_link Gis_tuple gis_tuple Fis_tuple.kp bis_tuple Gis_integer gis_integer Fis_integer.kp bis_integer (fun ws O S h => by obtain ⟨w, rfl, _⟩ := h; rfl) rd_is_link
  have GXcrossings := okcrossings (P := P) (w := w) (mg := mg) (base := base) Fcrossings z_isinstance z_all z_list z_tuple z_sorted gBadLinks TBadLinks Gturned_round gturned_round Fturned_round.kp bturned_round Gis_link gis_link Fis_link.kp bis_link (fun ws O S T h => by obtain ⟨x, rfl, _⟩ := h; rfl) (rd_crossings K)
  have Gcrossings : FnG P w K mg base 50 _ fdcrossings ["links"] sp_crossings := GXcrossings.g fun ws O S h => by obtain ⟨x, ps, rfl, hg, q⟩ := h; exact ⟨x, rfl, .inl ⟨ps, hg, q⟩⟩
  have G_law_feed := ok_law_feed (P := P) (w := w) (mg := mg) (base := base) F_law_feed z_sum z_len z_max z_int (fun ws O S h => by obtain ⟨k, n, i, rfl, _⟩ := h; rfl) rd_feed
  have G_law_draw := ok_law_draw (P := P) (w := w) (mg := mg) (base := base) F_law_draw z_int (fun ws O S h => by obtain ⟨k, m, n, rfl, _⟩ := h; rfl) Dm.rd_law_draw
  have G_law_one := ok_law_one (P := P) (w := w) (mg := mg) (base := base) F_law_one z_len G_law_draw g_law_draw F_law_draw.kp b_law_draw (fun ws O S h => by obtain ⟨k, j, us, n, rfl, _⟩ := h; rfl) Dm.rd_law_oneL
  have G_law_mixed := ok_law_mixed (P := P) (w := w) (mg := mg) (base := base) F_law_mixed z_range z_list z_len G_law_draw g_law_draw F_law_draw.kp b_law_draw (fun ws O S h => by obtain ⟨k, j, n, ps, rfl, _⟩ := h; rfl) rd_mixed
  have G_law_is := ok_law_is (P := P) (w := w) (mg := mg) (base := base) F_law_is z_isinstance z_int z_bool (fun ws O S h => by obtain ⟨a, b, rfl, _⟩ := h; rfl) rd_is
  have G_law_crossed := ok_law_crossed (P := P) (w := w) (mg := mg) (base := base) F_law_crossed z_range z_len z_int (fun ws O S h => by obtain ⟨k, ps, rfl, _⟩ := h; rfl) rd_crossed
  have G_law_refused := ok_law_refused (P := P) (w := w) (mg := mg) (base := base) F_law_refused z_isinstance gBadLinks TBadLinks gTongueError TTongueError gTooMany TTooMany GXcrossings gcrossings Fcrossings.kp bcrossings (fun ws O S h => by obtain ⟨x, rfl, _⟩ := h; rfl) (rd_refused K cls)
  have kbcrossings_links : KId K fdcrossings ["links"] := kbN Fcrossings kg0_rel fun _ _ _ _ _ _ us ws hl => match us, ws, hl with | [], [_], _ => rfl
  have G_law_right := ok_law_right (P := P) (w := w) (mg := mg) (base := base) F_law_right z_range z_list z_len z_tuple z_dict G_law_draw g_law_draw F_law_draw.kp b_law_draw G_law_one g_law_one F_law_one.kp b_law_one G_law_refused g_law_refused F_law_refused.kp b_law_refused G_law_crossed g_law_crossed F_law_crossed.kp b_law_crossed G_law_is g_law_is F_law_is.kp b_law_is Gcrossings gcrossings Fcrossings.kp bcrossings G_law_mixed g_law_mixed F_law_mixed.kp b_law_mixed kbcrossings_links (fun ws O S h => by obtain ⟨k, rfl, _⟩ := h; rfl) rd_right
  exact oklaw Flaw z_range z_max z_min z_len G_law_right g_law_right F_law_right.kp b_law_right Gcrossings gcrossings Fcrossings.kp bcrossings G_law_feed g_law_feed F_law_feed.kp b_law_feed (fun ws O S h => by obtain ⟨n, rfl, _⟩ := h; rfl) rd_law
end K28
open PySem PySem.W PySem.Calls PyProof.Rows
set_option maxRecDepth 100000 in
set_option maxHeartbeats 0 in
theorem PySem.Challenge.cw_pairedtongues_k28_crossings_counted_holds : PySem.Challenge.rw_pairedtongues_k28_crossings_counted.Holds := by
  w_on; o_law
  refine HandSHeadRun.head_any (r := OpenLaw.row PySem.Challenge.rw_pairedtongues_k28_crossings_counted) (q := view (OpenLaw.row PySem.Challenge.rw_pairedtongues_k28_crossings_counted).prog [22]) (H := K28.hk) (ob := K28.ob) (M := 9000) (loose := K28.loose) (d := HandSHeadRun.topDef (OpenLaw.row PySem.Challenge.rw_pairedtongues_k28_crossings_counted).prog 22) (kwd := []) K28.ob_eq
    (by kernel_rfl) (fun s => by kernel_rfl) K28.run (by kernel_rfl) (by kernel_rfl) (by kernel_rfl) (by rfl) (by first | assumption | decide +kernel) (by decide +kernel) ⟨rfl, rfl, rfl, rfl, rfl, by decide +kernel⟩ ?hw ?hc
  case hw => w_witness2
  case hc =>
    refine Dm.walk_ofG (l := PySem.Challenge.rw_pairedtongues_k28_crossings_counted) (n := 63) (k := 53) (x := "_law_script") rfl (by decide) (by kernel_rfl) ⟨rfl, by decide, by decide⟩ ?F
    intro w mg fa h Y G hmg0
    obtain ⟨K, KX, c⟩ := Y
    have hmg : mg ("law" : PySem.Str) = some (.ref fa) := by
      have e : (HandSHeadRun.topDef (OpenLaw.row PySem.Challenge.rw_pairedtongues_k28_crossings_counted).prog 22).name = ("law" : PySem.Str) := by kernel_rfl
      rw [← e]
      exact hmg0
    obtain ⟨nl, fd, hb, hF⟩ := K28.facts (P := (PySem.Challenge.rw_pairedtongues_k28_crossings_counted).prog) (w := w) KX G hmg c
    exact ⟨K, fd, K28.sp_law, KX, nl, hb, fun ns hl hz => ⟨ns, rfl, rfl, hz, hl, fun _ => rfl⟩, hF⟩

